/- LinesExact: the walk. -/
import Derived.Test.YtjmjhmohholmbaaG24
namespace Go.Proofs.Ytjmjhmohholmbaa
open Go.RowKit Go.Maps Ln
attribute [local go_sem ↓] Go.wp_at_zero Go.wp_at_succ

set_option maxRecDepth 8000 in
set_option maxHeartbeats 4000000 in
theorem exact_any {w : World} {z0 z1 : Int} {N c : Nat} {a : Option Addr} {ops : List Opx} (hO : OpxAt w a ops) (hN : ops.length = N) (hNc : N ≤ c) (hcm : (c : Int) ≤ 9223372036854775807) :
    Calls Try.prog 5 #[.agg #[.int .i64 z0, .int .i64 z1], .slice a N c] w fun e w' => e = .returned (.bool true) ∧ Below w.heap.size w w' := by
  have hp1 : ∀ (p : Option Addr) (u : World), (binOp .eql 28 (.pointer p) (.pointer none)).run Try.prog u = .ok (.bool p.isNone) u := fun p u => run_eql_pointer_nil u _ p (by kernel_rfl)
  have hp2 : ∀ (p : Option Addr) (u : World), (binOp .eql 45 (.pointer p) (.pointer none)).run Try.prog u = .ok (.bool p.isNone) u := fun p u => run_eql_pointer_nil u _ p (by kernel_rfl)
  have HO : Hid (OpxAt w a ops ∧ ops.length = N ∧ N ≤ c) := ⟨hO, hN, hNc⟩
  obtain ⟨A2, hA2⟩ : ∃ A2, w.heap.size = A2 := ⟨_, rfl⟩
  obtain ⟨w1, hw1⟩ : ∃ w1, w.alloc (.cells #[.int .i64 z0, .int .i64 z1] 42) = w1 := ⟨_, rfl⟩
  have k1 : Below w.heap.size w w1 := by rw [← hw1]; exact (Below.refl _ _).alloc (Nat.le_refl _) _
  have HW1 : Hid (w.alloc (.cells #[.int .i64 z0, .int .i64 z1] 42) = w1 ∧ w.heap.size = A2) := ⟨hw1, hA2⟩
  have HB2 : Hid (w1.heap[A2]? = some (.cells #[.int .i64 z0, .int .i64 z1] 42 (0, 0)) ∧ Below w.heap.size w w1) := ⟨by rw [← hw1, ← hA2]; exact heap_alloc_new w _, k1⟩
  have HK : Hid (Calls Try.prog 6 #[] w1 _) := known_fn w1
  clear hO hN hw1 hA2 k1 hNc
  go_enter Try.func5, Try.ntmps5
  go_upto_region 1 with fail
  rw [HW1.out.1, HW1.out.2]
  clear HW1
  go_wp2_with fail
  refine HK.out.mono ?_
  rintro e w2 ⟨rfl, k2⟩
  have HB3 : Hid (w2.heap[A2]? = some (.cells #[.int .i64 z0, .int .i64 z1] 42 (0, 0)) ∧ Below w.heap.size w w2) := ⟨(k2.block A2 (Array.getElem?_eq_some_iff.1 HB2.out.1).1).trans HB2.out.1, below_step HB2.out.2 k2⟩
  clear HK k2 HB2
  obtain ⟨A5, hA5⟩ : ∃ A5, w2.heap.size = A5 := ⟨_, rfl⟩
  obtain ⟨w3, hw3⟩ : ∃ w3, (w2.alloc (.cells #[.pointer none, .pointer none] 44)).alloc (.cells #[.pointer none, .pointer none] 46) = w3 := ⟨_, rfl⟩
  have HW3 : Hid ((w2.alloc (.cells #[.pointer none, .pointer none] 44)).alloc (.cells #[.pointer none, .pointer none] 46) = w3 ∧ w2.heap.size = A5) := ⟨hw3, hA5⟩
  obtain ⟨zz, hz⟩ : ∃ zz : Nat → Int, zz 0 = z0 ∧ zz 1 = z1 := ⟨fun i => if i = 0 then z0 else z1, rfl, rfl⟩
  have HZ : Hid (zz 0 = z0 ∧ zz 1 = z1) := hz
  have H0 : Hid (L1 w A5 (A5 + 1) zz 0 (fun _ => 0) (fun _ => 0) w3 ∧ w3.heap[A2]? = some (.cells #[.int .i64 z0, .int .i64 z1] 42 (0, 0))) := by
    have k1 : Below w2.heap.size w2 (w2.alloc (.cells #[.pointer none, .pointer none] 44)) := (Below.refl _ _).alloc (Nat.le_refl _) _
    have k2 : Below (w2.alloc (.cells #[.pointer none, .pointer none] 44)).heap.size (w2.alloc (.cells #[.pointer none, .pointer none] 44)) w3 := by rw [← hw3]; exact (Below.refl _ _).alloc (Nat.le_refl _) _
    have e1 : (w2.alloc (.cells #[.pointer none, .pointer none] 44)).heap.size = A5 + 1 := by simp [hA5]
    have kk := below_step k1 k2
    have h5 : (w2.alloc (.cells #[.pointer none, .pointer none] 44)).heap[A5]? = some (.cells #[.pointer none, .pointer none] 44 (0, 0)) := by rw [← hA5]; exact heap_alloc_new w2 _
    refine ⟨⟨below_step HB3.out.2 kk, ?_, ?_, ?_, ?_, fun i hi => absurd hi (Nat.not_lt_zero _), fun i hi => absurd hi (Nat.not_lt_zero _), fun i i' _ hi => absurd hi (Nat.not_lt_zero _)⟩, (kk.block A2 (Array.getElem?_eq_some_iff.1 HB3.out.1).1).trans HB3.out.1⟩
    · exact (k2.block A5 (by omega)).trans h5
    · rw [← hw3, ← e1]; exact heap_alloc_new _ _
    · rw [← hA5]; exact HB3.out.2.size
    · rw [← hA5]; exact Nat.le_trans HB3.out.2.size (Nat.le_succ _)
  clear hA5 hw3 hz HB3
  go_upto_region 6 with fail
  rw [HW3.out.1, HW3.out.2]
  clear HW3
  go_loopw [26] (fun i u => ∃ (j : Nat) (B R : Nat → Nat), j ≤ 2 ∧ i = .int .i64 (j : Nat) ∧ Hid (L1 w A5 (A5 + 1) zz j B R u ∧ u.heap[A2]? = some (.cells #[.int .i64 z0, .int .i64 z1] 42 (0, 0)))) (fun i _ => 2 - (intOf i).toNat)
  case atStart => exact ⟨0, _, _, by omega, rfl, H0.out⟩
  case round =>
  obtain ⟨j, B, R, hj, rfl, HI⟩ := hrel
  clear H0
  by_cases hj2 : j < 2
  · have hj2' : (j : Int) < 2 := by omega
    obtain ⟨z, hz⟩ : ∃ z, zz j = z := ⟨_, rfl⟩
    have HZJ : Hid (zz j = z) := hz
    have cz : wr.cell? ⟨A2, j, none⟩ = some (.int .i64 z) := by
      rw [← hz]
      rcases (by omega : j = 0 ∨ j = 1) with rfl | rfl
      · rw [HZ.out.1]; simp [World.cell?, HI.out.2]
      · rw [HZ.out.2]; simp [World.cell?, HI.out.2]
    clear hz
    by_cases hg : 0 ≤ z ∧ z ≤ 4096
    · obtain ⟨y, rfl⟩ : ∃ y : Nat, z = (y : Int) := ⟨z.toNat, by omega⟩
      have hy : y ≤ 4096 := by omega
      have HG : Hid (gd (zz j) = true ∧ (zz j).toNat = y) := ⟨by rw [HZJ.out]; exact decide_eq_true hg, by rw [HZJ.out]; rfl⟩
      have HN : Hid (Calls Try.prog 7 #[.int .i64 (y : Nat)] wr _) := new_yes wr hy
      clear hg
      go_wp2_with fail
      refine HN.out.mono ?_
      rintro e w4 ⟨rfl, m4, k4⟩
      obtain ⟨b, hb⟩ : ∃ b, wr.heap.size = b := ⟨_, rfl⟩
      rw [hb] at m4 ⊢
      have H4 : Hid (MkAt w4 b (.slice none 0 0) (mk0 y) ∧ Below wr.heap.size wr w4 ∧ wr.heap.size = b) := ⟨m4, k4, hb⟩
      have HR : Hid (Calls Try.prog 14 #[.int .i64 (y : Nat)] w4 _) := rnew_yes w4 hy
      have cz' : w4.cell? ⟨A2, j, none⟩ = some (.int .i64 (y : Nat)) := cell_later k4 _ _ _ cz
      clear m4 k4 hb HN cz
      go_wp2_with fail
      refine HR.out.mono ?_
      rintro e w5 ⟨rfl, m5, k5⟩
      obtain ⟨r, hr⟩ : ∃ r, w4.heap.size = r := ⟨_, rfl⟩
      rw [hr] at m5 ⊢
      have HL5 : Hid (L1 w A5 (A5 + 1) zz j B R w5 ∧ w5.heap[A2]? = some (.cells #[.int .i64 z0, .int .i64 z1] 42 (0, 0))) := by
        have kk := below_step H4.out.2.1 k5
        exact ⟨HI.out.1.later kk, (kk.block A2 (Array.getElem?_eq_some_iff.1 HI.out.2).1).trans HI.out.2⟩
      have HP : Hid (L1 w A5 (A5 + 1) zz (j + 1) (upd B j b) (upd R j r) ((w5.setCell ⟨A5, j, none⟩ (.pointer (some ⟨b, 0, none⟩))).setCell ⟨A5 + 1, j, none⟩ (.pointer (some ⟨r, 0, none⟩)))) := by
        have h := HL5.out.1.put hj2 b r (fun _ => ⟨by rw [HG.out.2]; exact H4.out.1.later k5, by have := HI.out.1.lo.size; have := H4.out.2.2; omega, fun i hi hg => by have := (HI.out.1.mm i hi hg).1.b.lt; have := H4.out.2.2; omega⟩) (fun _ => ⟨by rw [HG.out.2]; exact m5, by have := HI.out.1.lo.size; have := H4.out.2.1.size; omega, fun i hi hg => by have := (HI.out.1.rk i hi hg).1.b.lt; have := H4.out.2.1.size; omega⟩)
        rw [HG.out.1] at h
        exact h
      obtain ⟨⟨x5, c5⟩, f5, ⟨x6, c6⟩, f6⟩ := HL5.out.1.spots hj2 (.pointer (some ⟨b, 0, none⟩))
      have HP2 : Hid (((w5.setCell ⟨A5, j, none⟩ (.pointer (some ⟨b, 0, none⟩))).setCell ⟨A5 + 1, j, none⟩ (.pointer (some ⟨r, 0, none⟩))).heap[A2]? = some (.cells #[.int .i64 z0, .int .i64 z1] 42 (0, 0))) := by
        have t2 := TyB.at HL5.out.2 rfl
        exact ((Below.heap_setCell _ ⟨A5 + 1, j, none⟩ _ A2 (fun e => absurd (TyB.ne (e ▸ t2) (TyB.at HL5.out.1.a6 rfl)) (by decide))).trans (Below.heap_setCell w5 ⟨A5, j, none⟩ _ A2 (fun e => absurd (TyB.ne (e ▸ t2) (TyB.at HL5.out.1.a5 rfl)) (by decide)))).trans HL5.out.2
      clear m5 k5 hr HR H4 HI cz' HL5
      go_wp2
      go_roundw
      case rel => exact ⟨j + 1, _, _, by omega, by go_num, HP.out, HP2.out⟩
      case measure => simp [intOf]; omega
    · have hbad : z < 0 ∨ 4096 < z := by omega
      have HG : Hid (gd (zz j) = false) := by show _ = _; rw [HZJ.out]; exact decide_eq_false hg
      have HN : Hid (∀ u, Calls Try.prog 7 #[.int .i64 z] u fun e w' => e = .returned (.tuple #[.pointer none, .int .i64 1]) ∧ w' = u) := fun u => new_no u hbad
      have HR : Hid (∀ u, Calls Try.prog 14 #[.int .i64 z] u fun e w' => e = .returned (.tuple #[.pointer none, .int .i64 1]) ∧ w' = u) := fun u => rnew_no u hbad
      have HP : Hid (L1 w A5 (A5 + 1) zz (j + 1) (upd B j 0) (upd R j 0) ((wr.setCell ⟨A5, j, none⟩ (.pointer none)).setCell ⟨A5 + 1, j, none⟩ (.pointer none))) := by
        have h := HI.out.1.put hj2 0 0 (fun e => by rw [HG.out] at e; cases e) (fun e => by rw [HG.out] at e; cases e)
        rw [HG.out] at h
        exact h
      obtain ⟨⟨x5, c5⟩, f5, ⟨x6, c6⟩, f6⟩ := HI.out.1.spots hj2 (.pointer none)
      have HP2 : Hid (((wr.setCell ⟨A5, j, none⟩ (.pointer none)).setCell ⟨A5 + 1, j, none⟩ (.pointer none)).heap[A2]? = some (.cells #[.int .i64 z0, .int .i64 z1] 42 (0, 0))) := by
        have t2 := TyB.at HI.out.2 rfl
        exact ((Below.heap_setCell _ ⟨A5 + 1, j, none⟩ _ A2 (fun e => absurd (TyB.ne (e ▸ t2) (TyB.at HI.out.1.a6 rfl)) (by decide))).trans (Below.heap_setCell wr ⟨A5, j, none⟩ _ A2 (fun e => absurd (TyB.ne (e ▸ t2) (TyB.at HI.out.1.a5 rfl)) (by decide)))).trans HI.out.2
      clear hg hbad HI
      go_wp2_with fail
      refine (HN.out _).mono ?_
      rintro e wx ⟨rfl, hwx⟩
      rw [hwx]
      clear hwx
      go_wp2_with fail
      refine (HR.out _).mono ?_
      rintro e wx ⟨rfl, hwx⟩
      rw [hwx]
      clear hwx
      go_wp2
      go_roundw
      case rel => exact ⟨j + 1, _, _, by omega, by go_num, HP.out, HP2.out⟩
      case measure => simp [intOf]; omega
  · obtain rfl : j = 2 := by omega
    have HLO : Hid (Below w.heap.size w wr) := HI.out.1.lo
    cases g0 : gd (zz 0) with
    | false =>
      have c5 : wr.cell? ⟨A5, 0, none⟩ = some (.pointer none) := by simp [World.cell?, HI.out.1.a5, g0, pv]
      go_wp2
      go_ret
      exact ⟨rfl, HLO.out⟩
    | true =>
      have c50 : wr.cell? ⟨A5, 0, none⟩ = some (.pointer (some ⟨B 0, 0, none⟩)) := by simp [World.cell?, HI.out.1.a5, g0, pv]
      cases g1 : gd (zz 1) with
      | false =>
        have c51 : wr.cell? ⟨A5, 1, none⟩ = some (.pointer none) := by simp [World.cell?, HI.out.1.a5, g1, pv]
        go_wp2
        go_ret
        exact ⟨rfl, HLO.out⟩
      | true =>
        have c51 : wr.cell? ⟨A5, 1, none⟩ = some (.pointer (some ⟨B 1, 0, none⟩)) := by simp [World.cell?, HI.out.1.a5, g1, pv]
        have HX : Hid (XI w A5 (A5 + 1) B R 0 wr) := by
          obtain ⟨x1, x2, x3⟩ := HI.out.1.four g0 g1
          refine ⟨⟨_, _, _, x1, fun i hi => ⟨?_, Nat.zero_le _, Nat.zero_le _⟩⟩, x2, x3⟩
          show (zz i).toNat ≤ 4096
          have g : gd (zz i) = true := by
            rcases (by omega : i = 0 ∨ i = 1) with rfl | rfl
            · exact g0
            · exact g1
          have := of_decide_eq_true g
          omega
        clear HI HLO g0 g1
        go_upto_region 16 with fail
        go_cut [72, 73, 74] (fun s n i wx => i = .int .i64 0 ∧ ∃ L : Nat, L ≤ N ∧ L ≤ 400 ∧ s = .slice a L c ∧ n = .int .i64 (L : Nat) ∧ wx = wr)
        case first =>
          have hNc' : (N : Int) ≤ (c : Int) := by have := HO.out.2.2; omega
          by_cases h4 : N ≤ 400
          · have h4' : (N : Int) ≤ 400 := by omega
            go_wp2_with fail
            go_meet
            case rel => exact ⟨rfl, N, Nat.le_refl _, h4, by first | rfl | simp, by first | rfl | simp, rfl⟩
          · have h4' : ¬ (N : Int) ≤ 400 := by omega
            have h5' : (400 : Int) ≤ (c : Int) := by omega
            go_wp2_with fail
            go_meet
            case rel => exact ⟨rfl, 400, by omega, Nat.le_refl _, by first | rfl | simp, by first | rfl | simp, rfl⟩
        case rest =>
        obtain ⟨rfl, L, hL1, hL2, rfl, rfl, hwc⟩ := hcut
        rw [hwc]
        clear hwc c50 c51
        go_wp2_with fail
        go_loopw [74] (fun i u => ∃ k : Nat, k ≤ L ∧ i = .int .i64 (k : Nat) ∧ Hid (XI w A5 (A5 + 1) B R k u)) (fun i _ => L - (intOf i).toNat)
        case atStart => exact ⟨0, Nat.zero_le _, rfl, HX.out⟩
        case round =>
        obtain ⟨k, hk, rfl, HI⟩ := hrel
        clear HX
        by_cases hkL : k < L
        · have hkL' : (k : Int) < (L : Int) := by omega
          obtain ⟨o, ho⟩ : ∃ o, ops[k]? = some o := ⟨_, List.getElem?_eq_getElem (by rw [HO.out.2.1]; omega)⟩
          obtain ⟨mm, V, U, hX, hbd⟩ := HI.out.ex
          obtain ⟨bb, off, rfl, hcell⟩ : ∃ bb off, a = some ⟨bb, off, none⟩ ∧ ∀ q v, o.cells[q]? = some v → wr.cell? ⟨bb, off + k * 3 + q, none⟩ = some v := by
            rcases HO.out.1.cells with x | ⟨b, off, e, x⟩
            · rw [x] at ho; cases ho
            · exact ⟨b, off, e, fun q v hv => cell_later hX.lo _ _ _ (x k o ho q v hv)⟩
          obtain ⟨ov, bs, od, ot⟩ := o
          obtain ⟨n, hn⟩ : ∃ n, bs.length = n := ⟨_, rfl⟩
          have hob : n ≤ 1048576 := by rw [← hn]; exact (HO.out.1.good _ (List.mem_of_getElem? ho)).2
          obtain ⟨oa, oc, hov⟩ : ∃ oa oc, ov = .slice oa n oc := by
            obtain ⟨oa, oc, h, _⟩ := (HO.out.1.good _ (List.mem_of_getElem? ho)).1
            exact ⟨oa, oc, by rw [uv_len, hn] at h; exact h⟩
          subst hov
          have HLY : Hid (LAt w (.slice oa n oc) (uv bs)) := (HO.out.1.good _ (List.mem_of_getElem? ho)).1
          have HBS : Hid (bs.length = n) := hn
          have f0 : wr.cell? ⟨bb, off + k * 3, none⟩ = some (.slice oa n oc) := hcell 0 _ rfl
          have f1 : wr.cell? ⟨bb, off + k * 3 + 1, none⟩ = some (.bool od) := hcell 1 _ rfl
          have f2 : wr.cell? ⟨bb, off + k * 3 + 2, none⟩ = some (.bool ot) := hcell 2 _ rfl
          obtain ⟨A, hA⟩ : ∃ A, wr.heap.size = A := ⟨_, rfl⟩
          obtain ⟨w4, hw4⟩ : ∃ w4, wr.alloc (.cells #[.slice oa n oc, .bool od, .bool ot] 50) = w4 := ⟨_, rfl⟩
          have HW4 : Hid (wr.alloc (.cells #[.slice oa n oc, .bool od, .bool ot] 50) = w4 ∧ wr.heap.size = A) := ⟨hw4, hA⟩
          have k4 : Below wr.heap.size wr w4 := by rw [← hw4]; exact (Below.refl _ _).alloc (Nat.le_refl _) _
          have hop : w4.heap[A]? = some (.cells #[.slice oa n oc, .bool od, .bool ot] 50 (0, 0)) := by rw [← hw4, ← hA]; exact heap_alloc_new wr _
          have HX4 : Hid (X4 w (fun q => q = A5 ∨ q = A5 + 1 ∨ q = A) B R mm mm V U w4) := (hX.mark k4).weaken (fun q hq => by
            rcases hq with e | e | e
            · exact .inl (.inl e)
            · exact .inl (.inr e)
            · have := (Array.getElem?_eq_some_iff.1 hop).1; exact .inr (by omega))
          have HBL : Hid (∀ u : World, (∀ q, (q = A5 ∨ q = A5 + 1 ∨ q = A) → u.heap[q]? = w4.heap[q]?) → u.heap[A5]? = some (.cells #[.pointer (some ⟨B 0, 0, none⟩), .pointer (some ⟨B 1, 0, none⟩)] 44 (0, 0)) ∧ u.heap[A5 + 1]? = some (.cells #[.pointer (some ⟨R 0, 0, none⟩), .pointer (some ⟨R 1, 0, none⟩)] 46 (0, 0)) ∧ u.heap[A]? = some (.cells #[.slice oa n oc, .bool od, .bool ot] 50 (0, 0))) := fun u hu =>
            ⟨(hu A5 (.inl rfl)).trans ((k4.block A5 (Array.getElem?_eq_some_iff.1 HI.out.a5).1).trans HI.out.a5), (hu (A5 + 1) (.inr (.inl rfl))).trans ((k4.block (A5 + 1) (Array.getElem?_eq_some_iff.1 HI.out.a6).1).trans HI.out.a6), (hu A (.inr (.inr rfl))).trans hop⟩
          have HBD : Hid (∀ i, i < 2 → (mm i).most ≤ 4096 ∧ (mm i).u.length ≤ k * 1048576 ∧ (mm i).long ≤ k) := hbd
          clear hA hw4 k4 hop hX hbd HI hcell ho hn
          go_upto_region 19 with fail
          rw [HW4.out.1, HW4.out.2]
          clear HW4 f0 f1 f2
          obtain ⟨h5, h6, hA⟩ := HBL.out w4 (fun _ _ => rfl)
          have c2 : w4.cell? ⟨A, 2, none⟩ = some (.bool ot) := by simp [World.cell?, hA]
          have c1 : w4.cell? ⟨A, 1, none⟩ = some (.bool od) := by simp [World.cell?, hA]
          have c0 : w4.cell? ⟨A, 0, none⟩ = some (.slice oa n oc) := by simp [World.cell?, hA]
          obtain ⟨ti, hti, hti2⟩ : ∃ ti : Nat, ti = (if ot then 1 else 0) ∧ ti < 2 := ⟨_, rfl, by cases ot <;> decide⟩
          have HTI : Hid (ti = if ot then 1 else 0) := hti
          clear hti
          go_upto_if 79 with fail
          go_cut [14] from 75 to 199 (fun v wx => v = .int .i64 (ti : Nat) ∧ wx = w4)
          case first =>
            cases ot with
            | false =>
              go_wp2_with fail
              go_meet
              case rel => exact ⟨by rw [HTI.out]; rfl, rfl⟩
            | true =>
              go_wp2_with fail
              go_meet
              case rel => exact ⟨by rw [HTI.out]; rfl, rfl⟩
          case rest =>
          obtain ⟨rfl, hwc⟩ := hcut
          rw [hwc]
          clear hwc c2 HTI
          have p5 := ptr_at h5 hti2
          have p6 := ptr_at h6 hti2
          have hti3 : (ti : Int) < 2 := by omega
          clear h5 h6 hA
          go_upto_if 81 with fail
          go_cut [14] from 75 to 199 (fun v wx => v = .int .i64 (ti : Nat) ∧ Hid (XI w A5 (A5 + 1) B R (k + 1) wx))
          case first =>
            have HDN : Hid (∀ (m' : Mk) V' U' (G : Nat → Prop) (u : World), (∀ q, (q = A5 ∨ q = A5 + 1 ∨ q = A) → G q) → X4 w G B R (upd mm ti m') (upd mm ti m') V' U' u → (∀ q, (q = A5 ∨ q = A5 + 1 ∨ q = A) → u.heap[q]? = w4.heap[q]?) → (m'.most ≤ 4096 ∧ m'.u.length ≤ (k + 1) * 1048576 ∧ m'.long ≤ k + 1) → XI w A5 (A5 + 1) B R (k + 1) u) := fun m' V' U' G u hG hX hu hb => by
              obtain ⟨g5, g6, _⟩ := HBL.out u hu
              refine ⟨⟨_, _, _, hX.weaken (fun q hq => hG q (hq.elim .inl (fun e => .inr (.inl e)))), fun i hi => ?_⟩, g5, g6⟩
              by_cases e : i = ti
              · subst e; rw [upd_same]; exact hb
              · rw [upd_other _ _ e]
                have := HBD.out i hi
                exact ⟨this.1, Nat.le_trans this.2.1 (Nat.mul_le_mul_right _ (Nat.le_succ _)), Nat.le_succ_of_le this.2.2⟩
            cases od with
            | true =>
              have HD : Hid (Calls Try.prog 13 #[.pointer (some ⟨B ti, 0, none⟩)] w4 _) := x4_drop HX4.out hti2
              go_wp2_with fail
              refine HD.out.mono ?_
              rintro e w5 ⟨rfl, V5, hX5, hk5⟩
              have p6' : w5.cell? ⟨A5 + 1, ti, none⟩ = some (.pointer (some ⟨R ti, 0, none⟩)) := by
                simp only [World.cell?, hk5 (A5 + 1) (.inr (.inl rfl))] at p6 ⊢; exact p6
              have HD2 : Hid (Calls Try.prog 15 #[.pointer (some ⟨R ti, 0, none⟩)] w5 _) := x4_rdrop hX5 hti2
              have HX5 : Hid (∀ q, (q = A5 ∨ q = A5 + 1 ∨ q = A) → w5.heap[q]? = w4.heap[q]?) := hk5
              clear hX5 hk5 HD p5 p6
              go_wp2_with fail
              refine HD2.out.mono ?_
              rintro e w6 ⟨rfl, U6, hX6, hk6⟩
              have HR : Hid (XI w A5 (A5 + 1) B R (k + 1) w6) := HDN.out _ _ _ _ w6 (fun _ h => h) hX6 (fun q hq => (hk6 q hq).trans (HX5.out q hq)) ⟨(HBD.out ti hti2).1, Nat.zero_le _, Nat.le_succ_of_le (HBD.out ti hti2).2.2⟩
              clear hX6 hk6 HD2 HX5
              go_wp2_with fail
              go_meet
              case rel => exact ⟨rfl, HR⟩
            | false =>
              have HE0 : Hid ((w4.alloc (.cells #[] 5)).ownsRow w4.heap.size 5 1 (.slice (some ⟨w4.heap.size, 0, none⟩) 0 0) 0 [] ∧ LAt (w4.alloc (.cells #[] 5)) (.slice oa n oc) (uv bs) ∧ Below w4.heap.size w4 (w4.alloc (.cells #[] 5))) := by
                have kk : Below w4.heap.size w4 (w4.alloc (.cells #[] 5)) := (Below.refl _ _).alloc (Nat.le_refl _) _
                exact ⟨World.ownsRow_lit w4 #[] 0 (Nat.le_refl _) (Nat.zero_le _) (by simp), HLY.out.later (below_step HX4.out.lo kk), kk⟩
              have HNL : Hid ((uv bs).length = n) := by show _ = _; rw [uv_len]; exact HBS.out
              have c0' : (w4.alloc (.cells #[] 5)).cell? ⟨A, 0, none⟩ = some (.slice oa n oc) := cell_later HE0.out.2.2 _ _ _ c0
              go_wp2_with (first
                | (refine wpList_append_lat rfl (.tmp 90) (.tmp 92) rfl (.int .u8 0) 1 (by kernel_rfl) infB rfl w4.heap.size _ 0 [] rfl HE0.out.1 _ (uv bs) rfl HE0.out.2.1 (uv_one bs) (by rw [HNL.out]; unfold maxLen; omega) (by rw [HNL.out]; omega) HE0.out.2.2.size ?_; intro V' w5 ho' hgr hnl hh; rw [HNL.out, Nat.zero_add, List.nil_append] at ho'; have HI1 : Hid (w5.ownsRow w4.heap.size 5 1 V' n (uv bs) ∧ Below w4.heap.size w4 w5) := ⟨ho', HE0.out.2.2.grown hgr HE0.out.2.2.size (fun q hq => Nat.le_of_eq (Option.some.inj hq))⟩; obtain ⟨v1, v2, rfl⟩ := own_form ho'; clear hnl ho' hgr hh)
                | (refine wpList_append_lat rfl (.tmp 93) (.tmp 94) rfl (.int .u8 0) 1 (by kernel_rfl) infB rfl w4.heap.size _ n (uv bs) rfl (HI1.out.1.alloc _) _ [.int .u8 81] rfl (lat_lit _ _ _ _) (fun u hu => by simp at hu; subst hu; rfl) (by simp only [List.length_singleton]; unfold maxLen; omega) (by simp only [List.length_singleton]; omega) (by have := HI1.out.2.size; simp; omega) ?_; intro V' w6 ho' hgr hnl hh; rw [List.length_singleton] at ho'; have HI2 : Hid (w6.ownsRow w4.heap.size 5 1 V' (n + 1) (uv bs ++ [.int .u8 81]) ∧ Below w4.heap.size w4 w6) := ⟨ho', (HI1.out.2.alloc HI1.out.2.size _).grown hgr (by have := HI1.out.2.size; simp; omega) (fun q hq => (row_ty HI1.out.1 hq).2.2)⟩; obtain ⟨g, ci, rfl⟩ : ∃ g ci, V' = .slice (some ⟨g, 0, none⟩) (n + 1) ci := (by
                    rcases ho'.2 with ⟨_, h0⟩ | ⟨g, cap, cur, rfl, _⟩
                    · omega
                    · exact ⟨g, cap, rfl⟩); clear hnl ho' hgr hh))
              have HG : Hid (X4 w (fun q => (q = A5 ∨ q = A5 + 1 ∨ q = A) ∨ (w4.heap.size ≤ q ∧ q < w6.heap.size)) B R mm mm V U w6) := HX4.out.mark HI2.out.2
              have HGB : Hid ((w4.heap.size ≤ g ∧ g < w6.heap.size) ∧ ∀ q, (q = A5 ∨ q = A5 + 1 ∨ q = A) → w6.heap[q]? = w4.heap[q]?) := ⟨⟨(row_ty HI2.out.1 (b := g) rfl).2.2, (row_ty HI2.out.1 (b := g) rfl).2.1⟩, fun q hq => HI2.out.2.block q (HX4.out.gl q hq)⟩
              obtain ⟨G, hG⟩ : ∃ G : Nat → Prop, (fun q => (q = A5 ∨ q = A5 + 1 ∨ q = A) ∨ (w4.heap.size ≤ q ∧ q < w6.heap.size)) = G := ⟨_, rfl⟩
              have HGG : Hid ((∀ q, (q = A5 ∨ q = A5 + 1 ∨ q = A) → G q) ∧ G g) := by rw [← hG]; exact ⟨fun q hq => .inl hq, .inr HGB.out.1⟩
              rw [hG] at HG
              have HB6 := HBL.out w6 HGB.out.2
              have q5 := ptr_at HB6.1 hti2
              have q0 : w6.cell? ⟨A, 0, none⟩ = some (.slice oa n oc) := by simp [World.cell?, HB6.2.2]
              have hci : (n : Int) ≤ (ci : Int) := by
                rcases HI2.out.1.2 with ⟨h, _⟩ | ⟨g', cap, cur, h, _, _, h2, _⟩
                · cases h
                · cases h; omega
              have HIN : Hid (LAt w6 (.slice (some ⟨g, 0, none⟩) n ci) (uv bs)) := by
                have h := (owns_lat HI2.out.1).take rfl (Nat.le_succ n)
                rw [List.take_append_of_le_length (by rw [HNL.out]; exact Nat.le_refl _), List.take_of_length_le (by rw [HNL.out]; exact Nat.le_refl _)] at h
                exact h
              obtain ⟨tx, htx⟩ : ∃ tx : ByteArray, ⟨((mm ti).text bs).toArray⟩ = tx := ⟨_, rfl⟩
              obtain ⟨tk, htk⟩ : ∃ tk, took bs = tk := ⟨_, rfl⟩
              obtain ⟨wh, hwh⟩ : ∃ wh, (mm ti).whole bs = wh := ⟨_, rfl⟩
              obtain ⟨m', hm'⟩ : ∃ m', (mm ti).feed bs = m' := ⟨_, rfl⟩
              have HMB : Hid (m'.most ≤ 4096 ∧ m'.u.length ≤ (k + 1) * 1048576 ∧ m'.long ≤ k + 1) := by rw [← hm']; exact feed_bounds (HBD.out ti hti2) (by rw [HBS.out]; exact hob)
              have HBT : Hid ((mm ti).most ≤ 4096 ∧ (mm ti).u.length + bs.length ≤ 1099511627776 ∧ (mm ti).long ≤ 4611686018427387904) := by
                have h1 := HBD.out ti hti2
                have h2 := HBS.out
                have h3 : k * 1048576 ≤ 400 * 1048576 := Nat.mul_le_mul_right _ (by omega)
                exact ⟨h1.1, by omega, by omega⟩
              have HF : Hid (∀ u, Below w6.heap.size w6 u → Calls Try.prog 16 #[.pointer (some ⟨B ti, 0, none⟩), .slice (some ⟨g, 0, none⟩) n ci] u fun e w' => e = .returned (.tuple #[.string tx, .int .i64 (tk : Nat), .bool wh]) ∧ FrP (fun q => q = B ti ∨ (V ti).ownBlock = some q) u w' ∧ ∃ V', X4 w G B R (upd mm ti m') mm V' U w' ∧ ∀ q, G q → w'.heap[q]? = w6.heap[q]?) := fun u hu => by
                have h := x4_feed (HG.out.later hu) hti2 (HIN.out.later hu) HBT.out.1 (by have := HBT.out.2.1; omega) HBT.out.2.2
                rw [htx, htk, hwh, hm'] at h
                refine h.mono ?_
                rintro e w' ⟨he, hf, V', h1, h2⟩
                exact ⟨he, hf, V', h1, fun q hq => (h2 q hq).trans (hu.block q (HG.out.gl q hq))⟩
              have HRF : Hid (∀ u V', X4 w G B R (upd mm ti m') mm V' U u → Calls Try.prog 17 #[.pointer (some ⟨R ti, 0, none⟩), .slice oa n oc] u fun e w' => e = .returned (.tuple #[.string tx, .int .i64 (tk : Nat), .bool wh]) ∧ FrP (fun q => q = R ti ∨ (U ti).ownBlock = some q) u w' ∧ ∃ U', X4 w G B R (upd mm ti m') (upd mm ti m') V' U' w' ∧ ∀ q, G q → w'.heap[q]? = u.heap[q]?) := fun u V' hu => by
                have h := x4_rfeed hu hti2 HLY.out HBS.out HBT.out.1 HBT.out.2.1 HBT.out.2.2
                rw [htx, htk, hwh, hm'] at h
                exact h
              have h0n : (0 : Int) ≤ (n : Int) := by omega
              clear htx htk hwh hm' hG HE0 HI1 HB6 c0' p5 p6
              refine regMf A5 A g n ci ti (B ti) tk tx wh oa oc (fun q => q = B ti ∨ (V ti).ownBlock = some q) (fun u => Below w6.heap.size w6 u) (fun u => ∃ V', X4 w G B R (upd mm ti m') mm V' U u ∧ ∀ q, G q → u.heap[q]? = w6.heap[q]?) (by kernel_rfl) rfl rfl rfl rfl rfl hti3 hci h0n q5 q0 (fun e => e.elim (fun x => (HG.out.bl ti hti2).2 (by rw [← x]; exact HGG.out.1 _ (.inl rfl))) (fun x => (HG.out.vl ti A5 hti2 x).2 (HGG.out.1 _ (.inl rfl)))) (fun e => e.elim (fun x => (HG.out.bl ti hti2).2 (by rw [← x]; exact HGG.out.1 _ (.inr (.inr rfl)))) (fun x => (HG.out.vl ti A hti2 x).2 (HGG.out.1 _ (.inr (.inr rfl))))) (Below.refl _ _) (fun u u' h1 h2 => below_step h1 h2) (fun u u' ⟨V', h1, h2⟩ h3 => ⟨V', h1.later h3, fun q hq => (h3.block q (h1.gl q hq)).trans (h2 q hq)⟩) HF.out ?_
              rintro a' w7 hfa t16 t17 t18 ⟨V7, hX7, hk7⟩
              obtain ⟨ql, hql, rfl⟩ := fr2_three hfa rfl (by decide) (by decide) (by decide) t16 t17 t18
              obtain ⟨x1, x2, x3, x4, x5, x6, x7, x8, x9, x10, x11, x12, x13, rfl⟩ := thirteen hql
              have HX7 : Hid (X4 w G B R (upd mm ti m') mm V7 U w7 ∧ ∀ q, G q → w7.heap[q]? = w6.heap[q]?) := ⟨hX7, hk7⟩
              clear hfa t16 t17 t18 hX7 hk7 hql HF q5 q0
              simp only [List.take_succ_cons, List.drop_succ_cons, List.take_zero, List.drop_zero, List.cons_append, List.nil_append]
              have HB7 := HBL.out w7 (fun q hq => (HX7.out.2 q (HGG.out.1 q hq)).trans (HGB.out.2 q hq))
              have q6 := ptr_at HB7.2.1 hti2
              have q0 : w7.cell? ⟨A, 0, none⟩ = some (.slice oa n oc) := by simp [World.cell?, HB7.2.2]
              clear HB7
              go_upto_region 27 with fail
              refine regRf (A5 + 1) A n ti (R ti) tk tx wh oa oc (fun q => q = R ti ∨ (U ti).ownBlock = some q) (fun u => X4 w G B R (upd mm ti m') mm V7 U u ∧ ∀ q, G q → u.heap[q]? = w6.heap[q]?) (fun u => ∃ U', X4 w G B R (upd mm ti m') (upd mm ti m') V7 U' u ∧ ∀ q, G q → u.heap[q]? = w6.heap[q]?) (by kernel_rfl) rfl rfl rfl rfl hti3 q6 q0 (fun e => e.elim (fun x => (HG.out.rl ti hti2).2 (by rw [← x]; exact HGG.out.1 _ (.inr (.inl rfl)))) (fun x => (HG.out.ul ti (A5 + 1) hti2 x).2 (HGG.out.1 _ (.inr (.inl rfl))))) (fun e => e.elim (fun x => (HG.out.rl ti hti2).2 (by rw [← x]; exact HGG.out.1 _ (.inr (.inr rfl)))) (fun x => (HG.out.ul ti A hti2 x).2 (HGG.out.1 _ (.inr (.inr rfl))))) HX7.out (fun u u' ⟨h1, h2⟩ h3 => ⟨h1.later h3, fun q hq => (h3.block q (h1.gl q hq)).trans (h2 q hq)⟩) (fun u u' ⟨U', h1, h2⟩ h3 => ⟨U', h1.later h3, fun q hq => (h3.block q (h1.gl q hq)).trans (h2 q hq)⟩) (fun u hu => (HRF.out u V7 hu.1).mono fun e w' ⟨he, hf, U', h1, h2⟩ => ⟨he, hf, U', h1, fun q hq => (h2 q hq).trans (hu.2 q hq)⟩) ?_
              rintro a' w8 hfa t19 t20 t21 ⟨U8, hX8, hk8⟩
              obtain ⟨ql, hql, rfl⟩ := fr2_three hfa rfl (by decide) (by decide) (by decide) t19 t20 t21
              obtain ⟨y1, y2, y3, y4, y5, y6, y7, y8, y9, y10, rfl⟩ := ten hql
              have HX8 : Hid (X4 w G B R (upd mm ti m') (upd mm ti m') V7 U8 w8 ∧ ∀ q, G q → w8.heap[q]? = w6.heap[q]?) := ⟨hX8, hk8⟩
              clear hfa t19 t20 t21 hX8 hk8 hql HRF q6 q0 HX7
              simp only [List.take_succ_cons, List.drop_succ_cons, List.take_zero, List.drop_zero, List.cons_append, List.nil_append]
              have HB8 : Hid (∀ q, (q = A5 ∨ q = A5 + 1 ∨ q = A) → w8.heap[q]? = w4.heap[q]?) := fun q hq => (HX8.out.2 q (HGG.out.1 q hq)).trans (HGB.out.2 q hq)
              have q0 : w8.cell? ⟨A, 0, none⟩ = some (.slice oa n oc) := by have h := (HBL.out w8 HB8.out).2.2; simp [World.cell?, h]
              have hg8 := HX8.out.2 g HGG.out.2
              have hin8 : LAt w8 (.slice (some ⟨g, 0, none⟩) n ci) (uv bs) := HIN.out.blk rfl hg8
              obtain ⟨sb, hsb⟩ : ∃ sb : ByteArray, ⟨bs.toArray⟩ = sb := ⟨_, rfl⟩
              have hv1 : ∀ q, (convert 22 9 (.slice (some ⟨g, 0, none⟩) n ci)).run Try.prog (w8.drewN q) = .ok (.string sb) (w8.drewN q) := fun q => by rw [← hsb]; exact conv_uv (hin8.keep fun _ _ _ h => h)
              have hv2 : ∀ q, (convert 22 9 (.slice oa n oc)).run Try.prog (w8.drewN q) = .ok (.string sb) (w8.drewN q) := fun q => by rw [← hsb]; exact conv_uv ((HLY.out.later HX8.out.1.lo).keep fun _ _ _ h => h)
              have q81 : w8.cell? ⟨g, n, none⟩ = some (.int .u8 81) := by
                have h6 : w6.cell? ⟨g, n, none⟩ = some (.int .u8 81) := by
                  obtain ⟨_, _, e0, _, _, hx⟩ := (owns_lat HI2.out.1).open
                  obtain ⟨b', o', e1, h1⟩ := hx n (.int .u8 81) (by rw [List.getElem?_append_right (by rw [HNL.out]; exact Nat.le_refl _), HNL.out, Nat.sub_self]; rfl)
                  obtain ⟨e2, _, _⟩ := Value.slice.inj e0
                  rw [e1] at e2
                  cases e2
                  rw [Nat.zero_add] at h1
                  exact h1
                simp only [World.cell?, hg8] at h6 ⊢
                exact h6
              have HCU : Hid (∃ cur, w8.heap[g]? = some (.cells cur 5 (0, 0)) ∧ n + 1 ≤ cur.size) := by
                rcases HI2.out.1.2 with ⟨h, _⟩ | ⟨g', cap, cur, h, _, h1, h2, _, h4, _⟩
                · cases h
                · cases h
                  exact ⟨cur, hg8.trans h1, by omega⟩
              clear hsb hin8 hg8
              go_upto_region 28 with fail
              go_quiet (fail)
              have HI0 : Hid (X4 w G B R (upd mm ti m') (upd mm ti m') V7 U8 (w8.drewN nq) ∧ (∀ q, (q = A5 ∨ q = A5 + 1 ∨ q = A) → (w8.drewN nq).heap[q]? = w4.heap[q]?) ∧ ∃ cur, (w8.drewN nq).heap[g]? = some (.cells cur 5 (0, 0)) ∧ n + 1 ≤ cur.size) := ⟨HX8.out.1.later ⟨rfl, rfl, rfl, Nat.le_refl _, fun _ _ => rfl⟩, HB8.out, HCU.out⟩
              clear q0 q81 hv1 hv2 HB8 HCU HX8
              go_wp2_with fail
              go_loopw [155] (fun i u => ∃ q : Nat, q ≤ n + 1 ∧ i = .int .i64 (q : Nat) ∧ Hid (X4 w G B R (upd mm ti m') (upd mm ti m') V7 U8 u ∧ (∀ q, (q = A5 ∨ q = A5 + 1 ∨ q = A) → u.heap[q]? = w4.heap[q]?) ∧ ∃ cur, u.heap[g]? = some (.cells cur 5 (0, 0)) ∧ n + 1 ≤ cur.size)) (fun i _ => n + 1 - (intOf i).toNat)
              case atStart => exact ⟨0, Nat.zero_le _, rfl, HI0.out⟩
              case round =>
              obtain ⟨q, hq, rfl, HJ⟩ := hrel
              clear HI0
              by_cases hqn : q < n + 1
              · have hqn' : (q : Int) < (n : Int) + 1 := by omega
                have q8 : ∃ x, wr.cell? ⟨g, q, none⟩ = some x := by
                  obtain ⟨_, _, cur, hc, hs⟩ := HJ.out
                  exact ⟨cur[q]'(by omega), by simp only [World.cell?, hc]; rw [Array.getElem?_eq_getElem (by omega)]; rfl⟩
                obtain ⟨x, q8⟩ := q8
                have f8 : wr.frozen? ⟨g, q, none⟩ = false := by
                  obtain ⟨_, _, cur, hc, hs⟩ := HJ.out
                  simp [World.frozen?, hc]
                have HJ2 : Hid (X4 w G B R (upd mm ti m') (upd mm ti m') V7 U8 (wr.setCell ⟨g, q, none⟩ (.int .u8 120)) ∧ (∀ q', (q' = A5 ∨ q' = A5 + 1 ∨ q' = A) → (wr.setCell ⟨g, q, none⟩ (.int .u8 120)).heap[q']? = w4.heap[q']?) ∧ ∃ cur, (wr.setCell ⟨g, q, none⟩ (.int .u8 120)).heap[g]? = some (.cells cur 5 (0, 0)) ∧ n + 1 ≤ cur.size) := by
                  obtain ⟨h1, h2, cur, hc, hs⟩ := HJ.out
                  refine ⟨h1.set HGG.out.2 (Nat.le_trans HX4.out.lo.size HGB.out.1.1) _ _, fun q' hq' => (Below.heap_setCell wr ⟨g, q, none⟩ _ q' (fun e => ?_)).trans (h2 q' hq'), _, heap_set hc q _, by simpa using hs⟩
                  have := HX4.out.gl q' hq'
                  have h3 := HGB.out.1.1
                  have e : q' = g := e
                  omega
                clear HJ
                go_wp2
                go_roundw
                case rel => exact ⟨q + 1, by omega, by go_num, HJ2.out⟩
                case measure => simp [intOf]; omega
              · obtain rfl : q = n + 1 := by omega
                have HR : Hid (XI w A5 (A5 + 1) B R (k + 1) wr) := HDN.out _ _ _ _ wr HGG.out.1 HJ.out.1 HJ.out.2.1 HMB.out
                clear HJ
                go_wp2_with fail
                go_meet
                case rel => exact ⟨rfl, HR⟩
          case rest =>
          obtain ⟨rfl, HXI⟩ := hcut
          clear HBL HBD HX4 HLY c0 c1
          go_wp2_with fail
          go_loopw [162] (fun i u => ∃ q : Nat, q ≤ 2 ∧ i = .int .i64 (q : Nat) ∧ Hid (XI w A5 (A5 + 1) B R (k + 1) u)) (fun i _ => 2 - (intOf i).toNat)
          case atStart => exact ⟨0, by omega, rfl, HXI⟩
          case round =>
          obtain ⟨q, hq, rfl, HI⟩ := hrel
          clear HXI
          by_cases hq2 : q < 2
          · have hq3 : (q : Int) < 2 := by omega
            obtain ⟨m, V, U, hX, hbd⟩ := HI.out.ex
            have p5 := ptr_at HI.out.a5 hq2
            have p6 := ptr_at HI.out.a6 hq2
            obtain ⟨hl, hhl⟩ : ∃ hl, (m q).held.length = hl := ⟨_, rfl⟩
            obtain ⟨ul, hul⟩ : ∃ ul, (m q).u.length = ul := ⟨_, rfl⟩
            obtain ⟨zl, hzl⟩ : ∃ zl, (m q).long = zl := ⟨_, rfl⟩
            have hmk := hX.mm q hq2
            have hrk := hX.rk q hq2
            have HC1 : Hid (∀ n, Calls Try.prog 12 #[.pointer (some ⟨B q, 0, none⟩)] (wr.drewN n) fun e w' => e = .returned (.int .i64 (hl : Nat)) ∧ w' = wr.drewN n) := fun n => by
              have h := held_fn (w := wr.drewN n) hmk.b (hmk.o.keep fun _ _ _ => rfl)
              rw [hhl] at h; exact h
            have HC2 : Hid (∀ n, Calls Try.prog 11 #[.pointer (some ⟨B q, 0, none⟩)] (wr.drewN n) fun e w' => e = .returned (.int .i64 (ul : Nat)) ∧ w' = wr.drewN n) := fun n => by
              have h := begun_fn (w := wr.drewN n) hmk.b
              rw [hul] at h; exact h
            have HC3 : Hid (∀ n, Calls Try.prog 10 #[.pointer (some ⟨B q, 0, none⟩)] (wr.drewN n) fun e w' => e = .returned (.int .i64 (zl : Nat)) ∧ w' = wr.drewN n) := fun n => by
              have h := long_fn (w := wr.drewN n) hmk.b
              rw [hzl] at h; exact h
            have HC4 : Hid (∀ n, Calls Try.prog 18 #[.pointer (some ⟨R q, 0, none⟩)] (wr.drewN n) fun e w' => e = .returned (.int .i64 (hl : Nat)) ∧ ∃ k, w' = (wr.drewN n).drewN k) := fun n => by
              have h := rheld_fn (w := wr.drewN n) ⟨hrk.b, hrk.o.keep fun _ _ _ => rfl⟩
              rw [hhl] at h; exact h
            have HC5 : Hid (∀ n, Calls Try.prog 19 #[.pointer (some ⟨R q, 0, none⟩)] (wr.drewN n) fun e w' => e = .returned (.int .i64 (ul : Nat)) ∧ w' = wr.drewN n) := fun n => by
              have h := rbegun_fn (w := wr.drewN n) ⟨hrk.b, hrk.o.keep fun _ _ _ => rfl⟩
              rw [hul] at h; exact h
            have HC6 : Hid (∀ n, Calls Try.prog 20 #[.pointer (some ⟨R q, 0, none⟩)] (wr.drewN n) fun e w' => e = .returned (.int .i64 (zl : Nat)) ∧ w' = wr.drewN n) := fun n => by
              have h := rlong_fn (w := wr.drewN n) ⟨hrk.b, hrk.o.keep fun _ _ _ => rfl⟩
              rw [hzl] at h; exact h
            clear hX hbd hhl hul hzl hmk hrk
            go_upto_region 38 with fail
            go_quiet ((first
              | (go_at_call 12; exact Calls.quiet_of_same (HC1.out _))
              | (go_at_call 11; exact Calls.quiet_of_same (HC2.out _))
              | (go_at_call 10; exact Calls.quiet_of_same (HC3.out _))
              | (go_at_call 18; exact Calls.quiet_of (HC4.out _))
              | (go_at_call 19; exact Calls.quiet_of_same (HC5.out _))
              | (go_at_call 20; exact Calls.quiet_of_same (HC6.out _))))
            have HI2 : Hid (XI w A5 (A5 + 1) B R (k + 1) (wr.drewN nq)) := by
              have hb : Below wr.heap.size wr (wr.drewN nq) := ⟨rfl, rfl, rfl, Nat.le_refl _, fun _ _ => rfl⟩
              obtain ⟨m, V, U, hX, hbd⟩ := HI.out.ex
              exact ⟨⟨m, V, U, hX.later hb, hbd⟩, HI.out.a5, HI.out.a6⟩
            go_wp2
            go_roundw
            case rel => exact ⟨q + 1, by omega, by go_num, HI2.out⟩
            case measure => simp [intOf]; omega
          · obtain rfl : q = 2 := by omega
            go_wp2
            go_roundw
            case rel => exact ⟨k + 1, by omega, by go_num, HI.out⟩
            case measure => simp [intOf]; omega
        · obtain rfl : k = L := by omega
          have HLO : Hid (Below w.heap.size w wr) := by obtain ⟨_, _, _, h, _⟩ := HI.out.ex; exact h.lo
          go_wp2
          go_ret
          exact ⟨rfl, HLO.out⟩
end Go.Proofs.Ytjmjhmohholmbaa
