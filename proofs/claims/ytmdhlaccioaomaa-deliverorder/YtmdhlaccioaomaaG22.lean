/- The watch's send where nothing may go (typed by gen/dlws.py). -/
import Derived.Test.YtmdhlaccioaomaaG21
namespace Go.Proofs.Ytmdhlaccioaomaa
open Go.RowKit Go.Maps Rg Bo
attribute [local go_sem ↓] Go.wp_at_zero Go.wp_at_succ loadAl_eq storeAl_eq
attribute [local go_sem] gd_al neq_same eql_same zgd zeql

set_option maxRecDepth 8000 in
set_option maxHeartbeats 1000000 in
theorem wsend_no {w u : World} {n bs ms jl W D B R : Nat} {P : List Al} {V : Value} {tk K : Nat} {x : De} (h : OI w n bs ms jl W D B R P V tk x K u) {t : Nat} (ht : t ≤ 2305843009213693952) (hm : x.may t = false) :
    Calls Try.prog 9 #[.pointer (some ⟨W, 0, none⟩), .pointer (some ⟨D, 0, none⟩), .int .i64 (t : Nat)] u fun e v => e = .returned (.bool true) ∧ OI w n bs ms jl W D B R P V tk x K v := by
  obtain ⟨f, hd⟩ := h.j.d
  obtain ⟨m, hmm⟩ : ∃ m, P.length = m := ⟨_, rfl⟩
  have htk9 : tk ≤ m ∧ m ≤ 1000 := by have := h.k; have := h.tk; omega
  have hcase : (tk = m) ∨ (tk < m ∧ x.wi = true) ∨ (tk < m ∧ x.wi = false ∧ t < x.wt) := by
    have hl := h.len
    unfold De.may at hm
    by_cases h1 : tk < m
    · have h2 : decide (0 < x.l.length) = true := decide_eq_true (by omega)
      rw [h2] at hm
      cases hw : x.wi with
      | true => exact .inr (.inl ⟨h1, rfl⟩)
      | false =>
        rw [hw] at hm
        simp at hm
        exact .inr (.inr ⟨h1, rfl, hm⟩)
    · exact .inl (by omega)
  have HS : Hid (Calls Try.prog 15 #[.pointer (some ⟨D, 0, none⟩), .int .i64 (t : Nat)] u fun e v => e = .returned (.tuple #[alV alZ, .int .i64 0, .bool false]) ∧ OI w n bs ms jl W D B R P V tk x K v) := (Send_no hd (t : Nat) (by rw [mo_nat ht]; exact hm)).mono fun e v z => ⟨z.1, h.j.dcall z.2, h.l, h.tk, h.k⟩
  have HM : Hid (P.length = m) := hmm
  obtain ⟨wt, hwt⟩ : ∃ wt, x.wt = wt := ⟨_, rfl⟩
  obtain ⟨wi, hwi⟩ : ∃ wi, x.wi = wi := ⟨_, rfl⟩
  have HX : Hid (x.wt = wt ∧ x.wi = wi) := (⟨hwt, hwi⟩ : _ ∧ _)
  rw [hwt, hwi] at hcase
  clear h hd hm hmm hwt hwi
  go_enter Try.func9, Try.ntmps9
  go_upto_region 1 with fail
  go_wp2_with fail
  refine HS.out.mono ?_
  rintro e v1 ⟨rfl, k1⟩
  obtain ⟨w4, hw4⟩ : ∃ w4, v1.alloc (.cells (alC alZ).toArray 41) = w4 := ⟨_, rfl⟩
  obtain ⟨A4, hA4⟩ : ∃ A4, v1.heap.size = A4 := ⟨_, rfl⟩
  obtain ⟨b4, k4, -⟩ := zal_new hw4 hA4
  have HW4 : Hid (v1.alloc (.cells #[.int .i64 0, .int .i64 0, .int .i64 0, .int .i64 0, .int .i64 0, .int .i64 0, .int .i64 0, .int .i64 0, .int .i64 0, .int .i64 0, .string ⟨#[]⟩, .int .u32 0] 41) = w4) := hw4
  have HA4 : Hid (v1.heap.size = A4) := hA4
  have s4 := b4.store alZ
  have b5 := b4.put alZ
  have k5 := k1.later (below_puts k4 (Nat.le_of_eq hA4) 0 (alC alZ))
  obtain ⟨w5, hw5⟩ : ∃ w5, w4.setCells A4 0 (alC alZ) = w5 := ⟨_, rfl⟩
  rw [hw5] at s4 b5 k5
  obtain ⟨a, c, hV, -⟩ := own_at k5.j.p
  rw [HM.out] at hV
  obtain ⟨-, -, c4, c5, c6, -, c8⟩ := k5.j.wb.cells
  rw [hV] at c4
  rw [HX.out.2] at c6
  rw [HX.out.1] at c8
  have HK5 : Hid (OI w n bs ms jl W D B R P V tk x K w5) := k5
  have g1 : ∀ q, (loadAl (.pointer (some ⟨A4, 0, none⟩))).run Try.prog (w5.drewN q) = .ok (alV alZ) (w5.drewN q) := fun q => (b5.later (drewN_below w5 q)).load
  clear hw4 hA4 b4 k4 b5 k5 hw5 k1 hV HS
  rcases hcase with h1 | ⟨h1, h2⟩ | ⟨h1, h2, h3⟩
  · have l1 : ¬ (tk : Int) < (m : Int) := by omega
    go_upto_region 2 with (rw [HW4.out, HA4.out])
    go_quiet (fail)
    go_wp2
    go_ret
    exact ⟨rfl, HK5.out.later (drewN_below w5 nq)⟩
  · have l1 : (tk : Int) < (m : Int) := by omega
    rw [h2] at c6
    go_upto_region 2 with (rw [HW4.out, HA4.out])
    go_quiet (fail)
    go_wp2
    go_ret
    exact ⟨rfl, HK5.out.later (drewN_below w5 nq)⟩
  · have l1 : (tk : Int) < (m : Int) := by omega
    have l2 : ¬ (wt : Int) ≤ (t : Int) := by omega
    rw [h2] at c6
    go_upto_region 2 with (rw [HW4.out, HA4.out])
    go_quiet (fail)
    go_wp2
    go_ret
    exact ⟨rfl, HK5.out.later (drewN_below w5 nq)⟩
end Go.Proofs.Ytmdhlaccioaomaa
