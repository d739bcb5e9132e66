/- deliver's refuse. -/
import Derived.Test.YtmdhlaccioaomaaG17
namespace Go.Proofs.Ytmdhlaccioaomaa
open Go.RowKit Go.Maps Rg Bo
attribute [local go_sem ↓] Go.wp_at_zero Go.wp_at_succ loadAl_eq storeAl_eq

set_option maxRecDepth 4000 in
theorem refuse_any {w : World} {D B R n f bs ms jl : Nat} {x : De} (h : DlAt w D B R n f bs ms jl x) (hl : 0 < x.l.length) (hx : x.rf < 1000000) {t : Nat} (ht : t ≤ 2305843009213693952) (z : Int) :
    Calls Try.prog 34 #[.pointer (some ⟨D, 0, none⟩), .int .i64 (t : Nat), .int .i64 z] w fun e w' => e = .returned (.tuple #[alV x.one, .bool true]) ∧ DTo D B R n bs ms jl (x.no bs ms jl t z) w w' := by
  obtain ⟨w1, hw1⟩ : ∃ w1, w.alloc (.cells (alC alZ).toArray 41) = w1 := ⟨_, rfl⟩
  obtain ⟨A, hA⟩ : ∃ A, w.heap.size = A := ⟨_, rfl⟩
  have h1 := DS.start h hw1 hA
  have HW : Hid (w.alloc (.cells #[.int .i64 0, .int .i64 0, .int .i64 0, .int .i64 0, .int .i64 0, .int .i64 0, .int .i64 0, .int .i64 0, .int .i64 0, .int .i64 0, .string ⟨#[]⟩, .int .u32 0] 41) = w1) := hw1
  have HA : Hid (w.heap.size = A) := hA
  obtain ⟨rf, hrf⟩ : ∃ rf, x.rf = rf := ⟨_, rfl⟩
  obtain ⟨wt, hwt⟩ : ∃ wt, t + dl bs ms x.rf + jt z jl = wt := ⟨_, rfl⟩
  have hwb : wt ≤ 4611686018427387904 := by
    have := dl_le bs ms x.rf
    have := jt_le z jl
    have := h.ms
    have := h.jl
    omega
  obtain ⟨c0, c1, c2, c3, c4, c5, c6⟩ := h1.d.d.cells
  have q1 := h1.d.d.frozen 1
  have q2 := h1.d.d.frozen 2
  have q3 := h1.d.d.frozen 3
  rw [hrf] at c2 hwt
  have HDU : Hid (∀ v, Calls Try.prog 21 #[.int .i64 (t : Nat), .int .i64 (bs : Nat), .int .i64 (ms : Nat), .int .i64 (rf : Nat), .int .i64 z, .int .i64 (jl : Nat)] v fun e w' => e = .returned (.tuple #[.int .i64 (wt : Nat), .int .i64 0]) ∧ w' = v) := fun v => by rw [← hwt]; exact due_fn h.bs h.ms (by omega) ht h.jl v
  obtain ⟨y, hy⟩ : ∃ y, x.one = y := ⟨_, rfl⟩
  have hno : x.no bs ms jl t z = ⟨x.l, false, rf + 1, wt⟩ := by unfold De.no; rw [← hwt, hrf]
  rw [hno, hy]
  have HS1 : Hid (DS w D B R n f bs ms jl x A alZ w1 ∧ x.one = y ∧ 0 < x.l.length ∧ wt ≤ 4611686018427387904) := (⟨h1, hy, hl, hwb⟩ : _ ∧ _ ∧ _ ∧ _)
  have hrf2 : rf < 1000000 := by omega
  clear h hw1 hA h1 hl hrf hwt hy hno ht hwb
  go_enter Try.func34, Try.ntmps34
  go_upto_region 1 with fail
  rw [HW.out, HA.out]
  go_quiet (first | (go_at_call 21; exact Calls.quiet_of_same (HDU.out _)))
  have h2 := (HS1.out.1.below (tdrew_below w1 nq)).set3 (rf + 1) wt (by omega) HS1.out.2.2.2
  obtain ⟨w2, hw2⟩ : ∃ w2, (((w1.drewN nq).setCell ⟨D, 1, none⟩ (.bool false)).setCell ⟨D, 2, none⟩ (.int .i64 ((rf + 1 : Nat) : Int))).setCell ⟨D, 3, none⟩ (.int .i64 (wt : Nat)) = w2 := ⟨_, rfl⟩
  have HW2 : Hid ((((w1.drewN nq).setCell ⟨D, 1, none⟩ (.bool false)).setCell ⟨D, 2, none⟩ (.int .i64 ((rf : Int) + 1))).setCell ⟨D, 3, none⟩ (.int .i64 (wt : Nat)) = w2) := by
    show _ = _
    rw [show (rf : Int) + 1 = ((rf + 1 : Nat) : Int) by omega, ← hw2]
  rw [hw2] at h2
  have HFR : Hid (Calls Try.prog 40 #[.pointer (some ⟨B, 0, none⟩)] w2 fun e w' => e = .returned (.tuple #[alV y, .bool true]) ∧ Below w2.heap.size w2 w') := (tfront_any h2.d.r).mono fun e w' z => ⟨by rw [z.1, ← HS1.out.2.1, decide_eq_true HS1.out.2.2.1]; rfl, z.2⟩
  have HS2 : Hid (DS w D B R n f bs ms jl ⟨x.l, false, rf + 1, wt⟩ A alZ w2) := h2
  have e0 := h2.d.d.cells.1
  clear hw2 h2
  go_upto_region 3 with fail
  rw [HW2.out]
  go_wp2_with fail
  refine HFR.out.mono ?_
  rintro e w3 ⟨rfl, k3⟩
  have h3 := HS2.out.below k3
  have h4 := h3.store y
  have s4 := h3.b.store y
  obtain ⟨w4, hw4⟩ : ∃ w4, w3.setCells A 0 (alC y) = w4 := ⟨_, rfl⟩
  rw [hw4] at h4 s4
  have HS4 : Hid (DS w D B R n f bs ms jl ⟨x.l, false, rf + 1, wt⟩ A y w4) := h4
  clear HFR HS2 k3 h3 h4 hw4
  go_wp2
  refine bodyPost_ret (al_res2 Try.results34 (x := y) (b := .bool true) rfl rfl HS4.out.b) rfl ?_
  exact ⟨rfl, HS4.out.done⟩
end Go.Proofs.Ytmdhlaccioaomaa
