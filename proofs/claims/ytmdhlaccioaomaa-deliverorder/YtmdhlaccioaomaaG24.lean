/- heronlaw20's watch: answer (typed by gen/dlwa.py). -/
import Derived.Test.YtmdhlaccioaomaaG23
namespace Go.Proofs.Ytmdhlaccioaomaa
open Go.RowKit Go.Maps Rg Bo
attribute [local go_sem ↓] Go.wp_at_zero Go.wp_at_succ loadAl_eq storeAl_eq
attribute [local go_sem] gd_al neq_same eql_same zgd zeql

set_option maxRecDepth 8000 in
set_option maxHeartbeats 1000000 in
theorem wans_yes {w u : World} {n bs ms jl W D B R : Nat} {P : List Al} {V : Value} {tk K : Nat} {x : De} (h : OI w n bs ms jl W D B R P V tk x K u) {t : Nat} (o : Opc) (hwi : x.wi = true) (hy : o.y = true) :
    Calls Try.prog 10 #[.pointer (some ⟨W, 0, none⟩), .pointer (some ⟨D, 0, none⟩), opV o, .int .i64 (t : Nat)] u fun e v => e = .returned (.bool true) ∧ OI w n bs ms jl W D B R P V (tk + 1) ⟨P.drop (tk + 1), false, 0, 0⟩ K v := by
  have hl := h.j.d
  obtain ⟨fz, hdz⟩ := hl
  have hlen := hdz.ok.one hwi
  obtain ⟨hone, htk⟩ := h.one hlen
  have htk9 : tk < P.length ∧ P.length ≤ 1000 := by have := h.k; omega
  obtain ⟨y, hyy⟩ : ∃ y, x.one = y := ⟨_, rfl⟩
  have hxl : x.l = y :: P.drop (tk + 1) := by
    rw [h.l, List.drop_eq_getElem_cons htk]
    congr 1
    have := (List.getElem?_eq_some_iff.1 hone).2
    rw [this, hyy]
  obtain ⟨u1, hu1⟩ : ∃ u1, u.alloc (.cells (opC o).toArray 43) = u1 := ⟨_, rfl⟩
  obtain ⟨A6, hA6⟩ : ∃ A6, u.heap.size = A6 := ⟨_, rfl⟩
  obtain ⟨ob1, ok1, -⟩ := box_op hu1 hA6
  have hwv : u.alloc (.cells (opV o).cells 43) = u1 := hu1
  unfold Value.cells at hwv
  have HU1 : Hid (_ = u1) := hwv
  have HA6 : Hid (u.heap.size = A6) := hA6
  obtain ⟨oc0, oc13, oc14, oc15⟩ := ob1.cells
  have h1 := h.later ok1
  obtain ⟨f, hd⟩ := h1.j.d
  rw [hy] at oc14
  have HS : Hid (Calls Try.prog 19 #[.pointer (some ⟨D, 0, none⟩), .bool true, .int .i64 (t : Nat), .int .i64 o.j] u1 fun e v => e = .returned (.tuple #[alV y, .bool true]) ∧ OJ w n bs ms jl W D B R P V tk true x.tr x.wt ⟨P.drop (tk + 1), false, 0, 0⟩ v ∧ OpB v A6 o) := (Ans_yes hd hwi hxl (t : Nat) o.j).mono fun e v z => ⟨z.1, by have := h1.j.dcall z.2; rwa [hwi] at this, opB_dto ob1 hd z.2⟩
  have HI : Hid (P[tk]? = some y ∧ tk < P.length ∧ P.length ≤ K ∧ K ≤ 1000) := (⟨by rw [← hyy]; exact hone, htk, h.k.1, h.k.2.2⟩ : _ ∧ _ ∧ _ ∧ _)
  have HY : Hid (o.y = true) := hy
  obtain ⟨m, hmm⟩ : ∃ m, P.length = m := ⟨_, rfl⟩
  have HM : Hid (P.length = m) := hmm
  have l1 : (tk : Int) < (m : Int) := by omega
  rw [hmm] at htk9
  clear h h1 hu1 hA6 hwv ob1 ok1 hd hwi hy hdz hlen hone htk hxl hyy hmm
  go_enter Try.func10, Try.ntmps10
  go_upto_region 1 with fail
  rw [HU1.out, HA6.out]
  go_wp2_with fail
  refine HS.out.mono ?_
  rintro e v1 ⟨rfl, k1, ob2⟩
  obtain ⟨w4, hw4⟩ : ∃ w4, v1.alloc (.cells (alC alZ).toArray 41) = w4 := ⟨_, rfl⟩
  obtain ⟨A4, hA4⟩ : ∃ A4, v1.heap.size = A4 := ⟨_, rfl⟩
  obtain ⟨b4, k4, -⟩ := zal_new hw4 hA4
  have HW4 : Hid (v1.alloc (.cells #[.int .i64 0, .int .i64 0, .int .i64 0, .int .i64 0, .int .i64 0, .int .i64 0, .int .i64 0, .int .i64 0, .int .i64 0, .int .i64 0, .string ⟨#[]⟩, .int .u32 0] 41) = w4) := hw4
  have HA4 : Hid (v1.heap.size = A4) := hA4
  have s4 := b4.store y
  have b5 := b4.put y
  have k5 := k1.later (below_puts k4 (Nat.le_of_eq hA4) 0 (alC y))
  have ob5 := ob2.later (below_puts k4 (Nat.le_of_eq hA4) 0 (alC y))
  obtain ⟨w5, hw5⟩ : ∃ w5, w4.setCells A4 0 (alC y) = w5 := ⟨_, rfl⟩
  rw [hw5] at s4 b5 k5 ob5
  obtain ⟨a, c, hV, -⟩ := own_at k5.p
  obtain ⟨-, -, c4, c5, c6, c7, c8⟩ := k5.wb.cells
  rw [hV] at c4
  have q6 := k5.wb.frozen 6
  have hk6 := k5.wset 6 (.bool false) (k5.wb.put6 false)
  have hne4 : A4 ≠ W := fun e => by
    have h1 := b5.ty
    rw [e] at h1
    exact absurd (TyB.ne h1 k5.wb.ty) (by decide)
  have hne6 : A6 ≠ W := fun e => by
    have h1 : TyB w5 43 A6 := ⟨_, _, ob5⟩
    rw [e] at h1
    exact absurd (TyB.ne h1 k5.wb.ty) (by decide)
  have b6 := b5.same (Below.heap_setCell w5 ⟨W, 6, none⟩ (.bool false) A4 hne4)
  have ob6 := ob5.same (Below.heap_setCell w5 ⟨W, 6, none⟩ (.bool false) A6 hne6)
  obtain ⟨w6, hw6⟩ : ∃ w6, w5.setCell ⟨W, 6, none⟩ (.bool false) = w6 := ⟨_, rfl⟩
  have HW6 : Hid (w5.setCell ⟨W, 6, none⟩ (.bool false) = w6) := hw6
  rw [hw6] at hk6 b6 ob6
  obtain ⟨d2, d3, d4, d5, d6, d7, d8⟩ := hk6.wb.cells
  rw [hV] at d4
  obtain ⟨-, -, e14, -⟩ := ob6.cells
  obtain ⟨f6, hd6⟩ := hk6.d
  have HWA : Hid (∀ q, Calls Try.prog 14 #[.pointer (some ⟨D, 0, none⟩)] (w6.drewN q) fun e w' => e = .returned (.int .i64 (0 : Nat)) ∧ w' = w6.drewN q) := fun q => wait_any (hd6.later (drewN_below w6 q))
  have g1 : ∀ q, (loadAl (.pointer (some ⟨A4, 0, none⟩))).run Try.prog (w6.drewN q) = .ok (alV y) (w6.drewN q) := fun q => (b6.later (drewN_below w6 q)).load
  obtain ⟨a', c', hV', hat⟩ := own_at hk6.p
  rw [hV] at hV'
  obtain ⟨rfl, -, rfl⟩ := Value.slice.inj hV'
  obtain ⟨pb, po, rfl, hrg⟩ := hat.nth HI.out.1
  have g2 : ∀ q, (loadAl (.pointer (some ⟨pb, po + tk * 12, none⟩))).run Try.prog (w6.drewN q) = .ok (alV y) (w6.drewN q) := fun q => alAt_load (range_later (drewN_below w6 q) hrg)
  have r8 := hk6.wb.frozen 8
  have r5 := hk6.wb.frozen 5
  have r7 := hk6.wb.frozen 7
  rw [HM.out] at c4 d4
  rw [HY.out] at e14
  have HN : Hid (∀ q, OI w n bs ms jl W D B R P V (tk + 1) ⟨P.drop (tk + 1), false, 0, 0⟩ K ((((w6.drewN q).setCell ⟨W, 8, none⟩ (.int .i64 0)).setCell ⟨W, 5, none⟩ (.int .i64 ((tk + 1 : Nat) : Int))).setCell ⟨W, 7, none⟩ (.int .i64 0)))   := fun q => by
    have z0 := hk6.later (drewN_below w6 q)
    have z1 := z0.wset 8 (.int .i64 ((0 : Nat) : Int)) (z0.wb.put8 0)
    have z2 := z1.wset 5 (.int .i64 ((tk + 1 : Nat) : Int)) (z1.wb.put5 (tk + 1))
    have z3 := z2.wset 7 (.int .i64 ((0 : Nat) : Int)) (z2.wb.put7 0)
    exact ⟨z3, rfl, HI.out.2.1, HI.out.2.2.1, Nat.zero_le _, HI.out.2.2.2⟩
  have hcs : (((tk : Int) + 1 : Int)) = ((tk + 1 : Nat) : Int) := by omega
  have HC : Hid ((((tk : Int) + 1 : Int)) = ((tk + 1 : Nat) : Int)) := hcs
  clear hw4 hA4 b4 k4 b5 k5 ob5 ob2 hw5 k1 HS hk6 b6 ob6 hw6 hd6 hV' hat hrg hcs hV
  go_upto_region 6 with (rw [HW4.out, HA4.out])
  go_upto_region 7 with fail
  rw [HW6.out]
  clear c4 c5 c6 c7 c8 q6
  go_quiet (fail)
  go_wp2_with fail
  refine (HWA.out _).mono ?_
  rintro e v9 ⟨rfl, hv9⟩
  subst hv9
  go_wp2
  go_ret
  exact ⟨rfl, by rw [HC.out]; exact HN.out nq⟩
end Go.Proofs.Ytmdhlaccioaomaa
