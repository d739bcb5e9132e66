/- deliver's send, take, refuse. -/
import Derived.Test.YtmdhlaccioaomaaG16
namespace Go.Proofs.Ytmdhlaccioaomaa
open Go.RowKit Go.Maps Rg Bo
attribute [local go_sem ↓] Go.wp_at_zero Go.wp_at_succ loadAl_eq storeAl_eq

/-- A DELIVERER AND AN ALERT's BOX in a call -/
structure DS (w : World) (D B R n f bs ms jl : Nat) (x : De) (A : Nat) (y : Al) (u : World) : Prop where
  d : DlAt u D B R n f bs ms jl x
  fr : FrP (fun k => k = D ∨ k = B ∨ k = R) w u
  b : AlB u A y
  a : w.heap.size ≤ A
  lt : D < w.heap.size ∧ B < w.heap.size ∧ R < w.heap.size
section
variable {w w1 u v : World} {D B R n f f' bs ms jl A A2 : Nat} {x x' : De} {y y' : Al}
theorem DS.start (h : DlAt w D B R n f bs ms jl x) (hw1 : w.alloc (.cells (alC alZ).toArray 41) = w1) (hA : w.heap.size = A) : DS w D B R n f bs ms jl x A alZ w1 := by
  obtain ⟨b1, k1, -⟩ := zal_new hw1 hA
  exact ⟨h.later k1, FrP.of_below _ k1, b1, Nat.le_of_eq hA, h.d.lt, h.r.b.lt, h.r.r.lt⟩
theorem DS.below (h : DS w D B R n f bs ms jl x A y u) (hb : Below u.heap.size u v) : DS w D B R n f bs ms jl x A y v := ⟨h.d.later hb, h.fr.below hb, h.b.later hb, h.a, h.lt⟩
theorem DS.drew (h : DS w D B R n f bs ms jl x A y u) : DS w D B R n f bs ms jl x A y u.drew := h.below (tdrew1 u)
/-- another box of the call's own is written -/
theorem DS.puts (h : DS w D B R n f bs ms jl x A y u) (hA : A2 ≠ A) (hw : w.heap.size ≤ A2) (o : Nat) (vs : List Value) : DS w D B R n f bs ms jl x A y (u.setCells A2 o vs) := by
  obtain ⟨l1, l2, l3⟩ := h.lt
  exact ⟨h.d.same (other_setCells A2 vs o u D (by omega)) (other_setCells A2 vs o u B (by omega)) (other_setCells A2 vs o u R (by omega)), frp_puts h.fr (fun e => by omega) o vs, h.b.same (other_setCells A2 vs o u A (fun e => hA e.symm)), h.a, h.lt⟩
theorem DS.store (h : DS w D B R n f bs ms jl x A y u) (y' : Al) : DS w D B R n f bs ms jl x A y' (u.setCells A 0 (alC y')) := by
  obtain ⟨l1, l2, l3⟩ := h.lt
  have ha := h.a
  exact ⟨h.d.same (other_setCells A _ 0 u D (by omega)) (other_setCells A _ 0 u B (by omega)) (other_setCells A _ 0 u R (by omega)), frp_puts h.fr (fun e => by omega) 0 _, h.b.put y', h.a, h.lt⟩
theorem DS.set1 (h : DS w D B R n f bs ms jl x A y u) (hl : 0 < x.l.length) : DS w D B R n f bs ms jl ⟨x.l, true, x.rf, x.wt⟩ A y (u.setCell ⟨D, 1, none⟩ (.bool true)) := by
  obtain ⟨l1, l2, l3⟩ := h.lt
  have ha := h.a
  obtain ⟨n1, n2, -⟩ := h.d.ne
  exact ⟨⟨h.d.d.put1 true, h.d.r.same (Below.heap_setCell u ⟨D, 1, none⟩ _ B n1.symm) (Below.heap_setCell u ⟨D, 1, none⟩ _ R n2.symm), ⟨fun _ => hl, h.d.ok.rf, h.d.ok.wt⟩, h.d.bs, h.d.ms, h.d.jl⟩, h.fr.set (fun _ => .inl rfl) 1 _, h.b.same (Below.heap_setCell u ⟨D, 1, none⟩ _ A (by show A ≠ D; omega)), h.a, h.lt⟩
/-- how the first stands is written anew -/
theorem DS.set3 (h : DS w D B R n f bs ms jl x A y u) (rf wt : Nat) (h1 : rf ≤ 1000000) (h2 : wt ≤ 4611686018427387904) : DS w D B R n f bs ms jl ⟨x.l, false, rf, wt⟩ A y (((u.setCell ⟨D, 1, none⟩ (.bool false)).setCell ⟨D, 2, none⟩ (.int .i64 (rf : Nat))).setCell ⟨D, 3, none⟩ (.int .i64 (wt : Nat))) := by
  obtain ⟨l1, l2, l3⟩ := h.lt
  have ha := h.a
  obtain ⟨n1, n2, -⟩ := h.d.ne
  have key : ∀ k, k ≠ D → (((u.setCell ⟨D, 1, none⟩ (.bool false)).setCell ⟨D, 2, none⟩ (.int .i64 (rf : Nat))).setCell ⟨D, 3, none⟩ (.int .i64 (wt : Nat))).heap[k]? = u.heap[k]? := fun k hk =>
    (Below.heap_setCell _ ⟨D, 3, none⟩ _ k hk).trans ((Below.heap_setCell _ ⟨D, 2, none⟩ _ k hk).trans (Below.heap_setCell u ⟨D, 1, none⟩ _ k hk))
  exact ⟨⟨((h.d.d.put1 false).put2 rf).put3 wt, h.d.r.same (key B n1.symm) (key R n2.symm), ⟨fun e => (by cases e), h1, h2⟩, h.d.bs, h.d.ms, h.d.jl⟩, ((h.fr.set (fun _ => .inl rfl) 1 _).set (fun _ => .inl rfl) 2 _).set (fun _ => .inl rfl) 3 _, h.b.same (key A (by omega)), h.a, h.lt⟩
/-- the ring turns -/
theorem DS.ring (h : DS w D B R n f bs ms jl x A y u) {l : List Al} (hr : ATo B R n f' l u v) (hx : x.wi = false) : DS w D B R n f' bs ms jl ⟨l, x.wi, x.rf, x.wt⟩ A y v := by
  obtain ⟨l1, l2, l3⟩ := h.lt
  have ha := h.a
  obtain ⟨n1, n2, -⟩ := h.d.ne
  have key : ∀ k, k < u.heap.size → k ≠ B → k ≠ R → v.heap[k]? = u.heap[k]? := fun k hk h1 h2 => hr.2.block k hk (fun e => e.elim h1 h2)
  exact ⟨⟨h.d.d.same (key D h.d.d.lt n1 n2), hr.1, ⟨fun e => (by rw [hx] at e; cases e), h.d.ok.rf, h.d.ok.wt⟩, h.d.bs, h.d.ms, h.d.jl⟩, h.fr.trans hr.2 (fun k hk e => e.elim (fun e => .inr (.inl e)) (fun e => .inr (.inr e))), h.b.same (key A h.b.lt (by omega) (by omega)), h.a, h.lt⟩
theorem DS.done (h : DS w D B R n f bs ms jl x A y u) : DTo D B R n bs ms jl x w u := ⟨⟨f, h.d⟩, h.fr⟩
end
def De.sent (x : De) : De := ⟨x.l, true, x.rf, x.wt⟩
set_option maxRecDepth 4000 in
theorem send_any {w : World} {D B R n f bs ms jl : Nat} {x : De} (h : DlAt w D B R n f bs ms jl x) (hl : 0 < x.l.length) :
    Calls Try.prog 28 #[.pointer (some ⟨D, 0, none⟩)] w fun e w' => e = .returned (.tuple #[alV x.one, .int .i64 ((x.rf + 1 : Nat) : Int), .bool true]) ∧ DTo D B R n bs ms jl x.sent w w' := by
  obtain ⟨w1, hw1⟩ : ∃ w1, w.alloc (.cells (alC alZ).toArray 41) = w1 := ⟨_, rfl⟩
  obtain ⟨A, hA⟩ : ∃ A, w.heap.size = A := ⟨_, rfl⟩
  have h1 := DS.start h hw1 hA
  have HW : Hid (w.alloc (.cells #[.int .i64 0, .int .i64 0, .int .i64 0, .int .i64 0, .int .i64 0, .int .i64 0, .int .i64 0, .int .i64 0, .int .i64 0, .int .i64 0, .string ⟨#[]⟩, .int .u32 0] 41) = w1) := hw1
  have HA : Hid (w.heap.size = A) := hA
  obtain ⟨c0, c1, -⟩ := h1.d.d.cells
  have q1 := h1.d.d.frozen 1
  have h2 := h1.set1 hl
  obtain ⟨w2, hw2⟩ : ∃ w2, w1.setCell ⟨D, 1, none⟩ (.bool true) = w2 := ⟨_, rfl⟩
  have HW2 : Hid (w1.setCell ⟨D, 1, none⟩ (.bool true) = w2) := hw2
  rw [hw2] at h2
  obtain ⟨y, hy⟩ : ∃ y, x.one = y := ⟨_, rfl⟩
  have HFR : Hid (Calls Try.prog 40 #[.pointer (some ⟨B, 0, none⟩)] w2 fun e w' => e = .returned (.tuple #[alV y, .bool true]) ∧ Below w2.heap.size w2 w') := (tfront_any h2.d.r).mono fun e w' z => ⟨by rw [z.1, ← hy, decide_eq_true hl]; rfl, z.2⟩
  have HS2 : Hid (DS w D B R n f bs ms jl x.sent A alZ w2) := h2
  have e0 := h2.d.d.cells.1
  obtain ⟨rf, hrf⟩ : ∃ rf, x.rf = rf := ⟨_, rfl⟩
  have HRF : Hid (x.rf = rf) := hrf
  have hrf2 : rf ≤ 1000000 := by have := h.ok.rf; omega
  have HN : Hid ((rf : Int) + 1 = ((rf + 1 : Nat) : Int)) := by show _ = _; omega
  rw [hrf, hy]
  clear h hw1 hA h1 hw2 h2 hy hrf hl
  go_enter Try.func28, Try.ntmps28
  go_upto_region 1 with fail
  rw [HW.out, HA.out]
  go_upto_region 2 with fail
  rw [HW2.out]
  go_wp2_with fail
  refine HFR.out.mono ?_
  rintro e w3 ⟨rfl, k3⟩
  have h3 := HS2.out.below k3
  obtain ⟨w4, hw4⟩ : ∃ w4, w3.alloc (.cells (alC alZ).toArray 41) = w4 := ⟨_, rfl⟩
  obtain ⟨A4, hA4⟩ : ∃ A4, w3.heap.size = A4 := ⟨_, rfl⟩
  obtain ⟨b4, k4, -⟩ := zal_new hw4 hA4
  have HW4 : Hid (w3.alloc (.cells #[.int .i64 0, .int .i64 0, .int .i64 0, .int .i64 0, .int .i64 0, .int .i64 0, .int .i64 0, .int .i64 0, .int .i64 0, .int .i64 0, .string ⟨#[]⟩, .int .u32 0] 41) = w4) := hw4
  have HA4 : Hid (w3.heap.size = A4) := hA4
  have hAlt := h3.b.lt
  have ne : A4 ≠ A := by omega
  have hwA : w.heap.size ≤ A4 := by have := h3.a; omega
  have h5 := (h3.below k4).puts ne hwA 0 (alC y)
  have s4 := b4.store y
  have b5 := b4.put y
  obtain ⟨w5, hw5⟩ : ∃ w5, w4.setCells A4 0 (alC y) = w5 := ⟨_, rfl⟩
  rw [hw5] at h5 s4 b5
  have h6 := h5.drew.store y
  have s6 := h5.drew.b.store y
  have l5 := b5.drew.load
  obtain ⟨-, -, c2, -⟩ := h5.d.d.cells
  have e2 := h6.d.d.cells.2.2.1
  rw [show x.sent.rf = rf from HRF.out] at c2 e2
  obtain ⟨w6, hw6⟩ : ∃ w6, w5.drew.setCells A 0 (alC y) = w6 := ⟨_, rfl⟩
  rw [hw6] at h6 s6 e2
  have HS6 : Hid (DS w D B R n f bs ms jl x.sent A y w6) := h6
  clear HFR HS2 k3 h3 hw4 hA4 b4 k4 hAlt ne hwA h5 b5 hw5 h6 hw6
  go_upto_region 3 with (rw [HW4.out, HA4.out])
  go_region
  go_wp2
  refine bodyPost_ret (al_res3 Try.results28 (x := y) (a := .int .i64 ((rf + 1 : Nat) : Int)) (b := .bool true) rfl (by first | exact congrArg (Value.int .i64) HN.out | rfl) rfl HS6.out.b) rfl ?_
  exact ⟨rfl, HS6.out.done⟩
set_option maxRecDepth 4000 in
theorem take_any {w : World} {D B R n f bs ms jl : Nat} {x : De} {y : Al} {t : List Al} (h : DlAt w D B R n f bs ms jl x) (hl : x.l = y :: t) :
    Calls Try.prog 33 #[.pointer (some ⟨D, 0, none⟩)] w fun e w' => e = .returned (.tuple #[alV y, .bool true]) ∧ DTo D B R n bs ms jl ⟨t, false, 0, 0⟩ w w' := by
  obtain ⟨w1, hw1⟩ : ∃ w1, w.alloc (.cells (alC alZ).toArray 41) = w1 := ⟨_, rfl⟩
  obtain ⟨A, hA⟩ : ∃ A, w.heap.size = A := ⟨_, rfl⟩
  have h1 := DS.start h hw1 hA
  have HW : Hid (w.alloc (.cells #[.int .i64 0, .int .i64 0, .int .i64 0, .int .i64 0, .int .i64 0, .int .i64 0, .int .i64 0, .int .i64 0, .int .i64 0, .int .i64 0, .string ⟨#[]⟩, .int .u32 0] 41) = w1) := hw1
  have HA : Hid (w.heap.size = A) := hA
  obtain ⟨c0, c1, c2, c3, -⟩ := h1.d.d.cells
  have q1 := h1.d.d.frozen 1
  have q2 := h1.d.d.frozen 2
  have q3 := h1.d.d.frozen 3
  have h2 := h1.set3 0 0 (by omega) (by omega)
  rw [hl] at h2
  obtain ⟨w2, hw2⟩ : ∃ w2, ((w1.setCell ⟨D, 1, none⟩ (.bool false)).setCell ⟨D, 2, none⟩ (.int .i64 ((0 : Nat) : Int))).setCell ⟨D, 3, none⟩ (.int .i64 ((0 : Nat) : Int)) = w2 := ⟨_, rfl⟩
  have HW2 : Hid (((w1.setCell ⟨D, 1, none⟩ (.bool false)).setCell ⟨D, 2, none⟩ (.int .i64 0)).setCell ⟨D, 3, none⟩ (.int .i64 0) = w2) := hw2
  rw [hw2] at h2
  have HPO : Hid (Calls Try.prog 43 #[.pointer (some ⟨B, 0, none⟩)] w2 _) := tpop_some h2.d.r
  have HS2 : Hid (DS w D B R n f bs ms jl ⟨y :: t, false, 0, 0⟩ A alZ w2) := h2
  have e0 := h2.d.d.cells.1
  clear h hw1 hA h1 hw2 h2 hl
  go_enter Try.func33, Try.ntmps33
  go_upto_region 1 with fail
  rw [HW.out, HA.out]
  go_upto_region 2 with fail
  rw [HW2.out]
  go_wp2_with fail
  refine HPO.out.mono ?_
  rintro e w3 ⟨rfl, k3⟩
  have h3 := HS2.out.ring k3 rfl
  have h4 := h3.store y
  have s4 := h3.b.store y
  obtain ⟨w4, hw4⟩ : ∃ w4, w3.setCells A 0 (alC y) = w4 := ⟨_, rfl⟩
  rw [hw4] at h4 s4
  have HS4 : Hid (DS w D B R n ((f + 1) % n) bs ms jl ⟨t, false, 0, 0⟩ A y w4) := h4
  clear HPO HS2 k3 h3 h4 hw4
  go_wp2
  refine bodyPost_ret (al_res2 Try.results33 (x := y) (b := .bool true) rfl rfl HS4.out.b) rfl ?_
  exact ⟨rfl, HS4.out.done⟩
end Go.Proofs.Ytmdhlaccioaomaa
