/- heronlaw20's watch: answer (typed by gen/dlwa.py). -/
import Derived.Test.YtmdhlaccioaomaaG22
namespace Go.Proofs.Ytmdhlaccioaomaa
open Go.RowKit Go.Maps Rg Bo
attribute [local go_sem ↓] Go.wp_at_zero Go.wp_at_succ loadAl_eq storeAl_eq
attribute [local go_sem] gd_al neq_same eql_same zgd zeql

theorem OI.mono {w u : World} {n bs ms jl W D B R : Nat} {P : List Al} {V : Value} {tk K K' : Nat} {x : De} (h : OI w n bs ms jl W D B R P V tk x K u) (hk : K ≤ K') (h2 : K' ≤ 1000) : OI w n bs ms jl W D B R P V tk x K' u := ⟨h.j, h.l, h.tk, by have := h.k; omega⟩
theorem opB_dto {u v : World} {D B R n f bs ms jl A : Nat} {x x' : De} {o : Opc} (h : OpB u A o) (hd : DlAt u D B R n f bs ms jl x) (h2 : DTo D B R n bs ms jl x' u v) : OpB v A o := by
  have ht : TyB u 43 A := ⟨_, _, h⟩
  refine h.same (h2.2.block A h.lt (fun e => ?_))
  rcases e with e | e | e
  · rw [e] at ht; exact absurd (TyB.ne ht hd.d.ty) (by decide)
  · rw [e] at ht; exact absurd (TyB.ne ht hd.r.b.ty) (by decide)
  · rw [e] at ht; exact absurd (TyB.ne ht hd.r.r.ty) (by decide)
set_option maxRecDepth 8000 in
set_option maxHeartbeats 1000000 in
theorem wans_none {w u : World} {n bs ms jl W D B R : Nat} {P : List Al} {V : Value} {tk K : Nat} {x : De} (h : OI w n bs ms jl W D B R P V tk x K u) {t : Nat} (o : Opc) (hwi : x.wi = false) :
    Calls Try.prog 10 #[.pointer (some ⟨W, 0, none⟩), .pointer (some ⟨D, 0, none⟩), opV o, .int .i64 (t : Nat)] u fun e v => e = .returned (.bool true) ∧ OI w n bs ms jl W D B R P V tk x K v := by
  obtain ⟨u1, hu1⟩ : ∃ u1, u.alloc (.cells (opC o).toArray 43) = u1 := ⟨_, rfl⟩
  obtain ⟨A6, hA6⟩ : ∃ A6, u.heap.size = A6 := ⟨_, rfl⟩
  obtain ⟨ob1, ok1, -⟩ := box_op hu1 hA6
  have hwv : u.alloc (.cells (opV o).cells 43) = u1 := hu1
  unfold Value.cells at hwv
  have HU1 : Hid (_ = u1) := hwv
  have HA6 : Hid (u.heap.size = A6) := hA6
  obtain ⟨oc0, oc13, oc14, oc15⟩ := ob1.cells
  have h1 := h.later ok1
  obtain ⟨f, hd⟩ := h1.j.d
  have HS : Hid (Calls Try.prog 19 #[.pointer (some ⟨D, 0, none⟩), .bool o.y, .int .i64 (t : Nat), .int .i64 o.j] u1 fun e v => e = .returned (.tuple #[alV alZ, .bool false]) ∧ OI w n bs ms jl W D B R P V tk x K v ∧ OpB v A6 o) := (Ans_none hd hwi o.y (t : Nat) o.j).mono fun e v z => ⟨z.1, ⟨h1.j.dcall z.2, h1.l, h1.tk, h1.k⟩, opB_dto ob1 hd z.2⟩
  have HWI : Hid (x.wi = false) := hwi
  clear h h1 hu1 hA6 hwv ob1 ok1 hd hwi
  go_enter Try.func10, Try.ntmps10
  go_upto_region 1 with fail
  rw [HU1.out, HA6.out]
  go_wp2_with fail
  refine HS.out.mono ?_
  rintro e v1 ⟨rfl, k1, ob2⟩
  obtain ⟨w4, hw4⟩ : ∃ w4, v1.alloc (.cells (alC alZ).toArray 41) = w4 := ⟨_, rfl⟩
  obtain ⟨A4, hA4⟩ : ∃ A4, v1.heap.size = A4 := ⟨_, rfl⟩
  obtain ⟨b4, k4, -⟩ := zal_new hw4 hA4
  have HW4 : Hid (v1.alloc (.cells #[.int .i64 0, .int .i64 0, .int .i64 0, .int .i64 0, .int .i64 0, .int .i64 0, .int .i64 0, .int .i64 0, .int .i64 0, .int .i64 0, .string ⟨#[]⟩, .int .u32 0] 41) = w4) := hw4
  have HA4 : Hid (v1.heap.size = A4) := hA4
  have s4 := b4.store alZ
  have b5 := b4.put alZ
  have k5 := k1.later (below_puts k4 (Nat.le_of_eq hA4) 0 (alC alZ))
  have ob5 := ob2.later (below_puts k4 (Nat.le_of_eq hA4) 0 (alC alZ))
  obtain ⟨w5, hw5⟩ : ∃ w5, w4.setCells A4 0 (alC alZ) = w5 := ⟨_, rfl⟩
  rw [hw5] at s4 b5 k5 ob5
  obtain ⟨a, c, hV, -⟩ := own_at k5.j.p
  obtain ⟨-, -, c4, c5, c6, c7, c8⟩ := k5.j.wb.cells
  rw [hV] at c4
  rw [HWI.out] at c6
  obtain ⟨f5, hd5⟩ := k5.j.d
  have HWA : Hid (∀ q, Calls Try.prog 14 #[.pointer (some ⟨D, 0, none⟩)] (w5.drewN q) fun e w' => e = .returned (.int .i64 (x.wt : Nat)) ∧ w' = w5.drewN q) := fun q => wait_any (hd5.later (drewN_below w5 q))
  have HK5 : Hid (OI w n bs ms jl W D B R P V tk x K w5) := k5
  have g1 : ∀ q, (loadAl (.pointer (some ⟨A4, 0, none⟩))).run Try.prog (w5.drewN q) = .ok (alV alZ) (w5.drewN q) := fun q => (b5.later (drewN_below w5 q)).load
  clear hw4 hA4 b4 k4 b5 k5 ob5 ob2 hw5 k1 HS hd5 hV
  go_upto_region 5 with (rw [HW4.out, HA4.out])
  go_quiet (first | (go_at_call 14; exact Calls.quiet_of_same (HWA.out _)))
  go_wp2
  go_ret
  exact ⟨rfl, HK5.out.later (drewN_below w5 nq)⟩
end Go.Proofs.Ytmdhlaccioaomaa
