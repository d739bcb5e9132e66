/- ring's Push and Pop, of things. -/
import Derived.Test.YtclcpblpmfijiaaG07
namespace Go.Proofs.Ytclcpblpmfijiaa
open Go.RowKit Go.Maps Rg
attribute [local go_sem ↓] Go.wp_at_zero Go.wp_at_succ

set_option maxRecDepth 4000 in
theorem tpush_any {w : World} {B R n f : Nat} {l : List Th} (h : TgAt w B R n f l) (x : Th) :
    Calls Try.prog 9 #[.pointer (some ⟨B, 0, none⟩), x.v] w fun e w' => e = .returned (.int .i64 (if l.length = n then 180 else 0)) ∧ TTo B R n f (if l.length = n then l else l ++ [x]) w w' := by
  obtain ⟨s, z⟩ := x
  show Calls Try.prog 9 #[.pointer (some ⟨B, 0, none⟩), .agg #[.string s, .int .i64 z]] w _
  obtain ⟨w1, hw1⟩ : ∃ w1, w.alloc (.cells #[.string s, .int .i64 z] 29) = w1 := ⟨_, rfl⟩
  obtain ⟨A, hA⟩ : ∃ A, w.heap.size = A := ⟨_, rfl⟩
  have k1 : Below w.heap.size w w1 := by rw [← hw1]; exact below_new w _
  have b1 : ThB w1 A ⟨s, z⟩ := by rw [← hw1, ← hA]; exact thB_new w ⟨s, z⟩
  have h1 := h.later k1
  have HW : Hid (w.alloc (.cells #[.string s, .int .i64 z] 29) = w1) := hw1
  have HA : Hid (w.heap.size = A) := hA
  have HFU : Hid (Calls Try.prog 8 #[.pointer (some ⟨B, 0, none⟩)] w1 _) := tfull_any h1.b
  by_cases e0 : l.length = n
  · rw [if_pos e0, if_pos e0]
    have hd : decide (l.length = n) = true := by simp [e0]
    rw [hd] at HFU
    have HH : Hid (TTo B R n f l w w1.drew) := ⟨h1.later (tdrew_below w1 1), FrP.of_below _ (below_d k1)⟩
    clear h hd e0 h1 hw1 hA k1 b1
    go_enter Try.func9, Try.ntmps9
    go_upto_region 1 with fail
    rw [HW.out, HA.out]
    go_wp2_with fail
    refine HFU.out.mono ?_
    rintro e w1 ⟨rfl, rfl⟩
    go_wp2
    go_ret
    exact ⟨rfl, HH.out⟩
  · rw [if_neg e0, if_neg e0]
    have hd : decide (l.length = n) = false := by simp [e0]
    rw [hd] at HFU
    have hll := h.l
    have hnn := h.n
    have hlt : l.length < n := by omega
    obtain ⟨m, hm⟩ : ∃ m, l.length = m := ⟨_, rfl⟩
    obtain ⟨p, hp⟩ : ∃ p, (f + m) % n = p := ⟨_, rfl⟩
    have hpn : p < n := by rw [← hp]; exact place_lt h.f
    have HPL : Hid (∀ u, TBox u B R n f m → Calls Try.prog 24 #[.pointer (some ⟨B, 0, none⟩), .int .i64 (m : Nat)] u fun e w' => e = .returned (.int .i64 (p : Nat)) ∧ w' = u.drew) := fun u hu => by rw [← hp]; exact tplace_any hu h.f h.n m (by omega)
    have h3 : TgAt w1.drew.drew.drew B R n f l := h1.later (tdrew3 w1)
    have h4 := h3.push ⟨s, z⟩ hlt
    rw [hm, hp] at h4
    have HH : Hid (TgAt ((((w1.setCell ⟨R, p * 2, none⟩ (.string s)).setCell ⟨R, p * 2 + 1, none⟩ (.int .i64 z)).setCell ⟨B, 2, none⟩ (.int .i64 ((m : Int) + 1))).drew.drew.drew) B R n f (l ++ [⟨s, z⟩])) := by
      simp only [putT, tset_drew] at h4
      exact h4
    have HB : Hid (TBox w1.drew.drew B R n f m) := by rw [← hm]; exact h1.b
    have HF : Hid (FrP (fun k => k = B ∨ k = R) w ((((w1.setCell ⟨R, p * 2, none⟩ (.string s)).setCell ⟨R, p * 2 + 1, none⟩ (.int .i64 z)).setCell ⟨B, 2, none⟩ (.int .i64 ((m : Int) + 1))).drew.drew.drew)) := by
      have hf := ((FrP.of_below (fun k => k = B ∨ k = R) (below_d (below_d (below_d k1)))).set (fun _ => .inr rfl) (p * 2) (.string s)).set (fun _ => .inr rfl) (p * 2 + 1) (.int .i64 z) |>.set (fun _ => .inl rfl) 2 (.int .i64 ((m : Int) + 1))
      simp only [tset_drew] at hf
      exact hf
    obtain ⟨c0, c1, c2⟩ := h1.b.cells
    rw [hm] at c2
    obtain ⟨c3, c4⟩ := h1.r.cell hpn
    have q3 := h1.r.frozen (p * 2)
    have q4 := h1.r.frozen (p * 2 + 1)
    have q2 := h1.b.frozen 2
    obtain ⟨a0, a1⟩ := b1.cells
    have hne := h.ne
    have hne2 : B ≠ R := fun e => hne e.symm
    have hm64 : m < 64 := by omega
    clear h h1 h3 h4 hd e0 hp hll hlt hm hw1 hA k1 b1
    go_enter Try.func9, Try.ntmps9
    go_upto_region 1 with fail
    rw [HW.out, HA.out]
    go_wp2_with fail
    refine HFU.out.mono ?_
    rintro e w1 ⟨rfl, rfl⟩
    clear HFU
    go_upto_region 3 with fail
    go_region_with (go_at_call 24; refine (HPL.out _ HB.out).mono ?_; rintro e u ⟨rfl, rfl⟩)
    all_goals
      go_wp2_with fail
      go_ret
      exact ⟨rfl, HH.out, HF.out⟩
set_option maxRecDepth 4000 in
theorem tpop_none {w : World} {B R n f : Nat} (h : TgAt w B R n f []) :
    Calls Try.prog 10 #[.pointer (some ⟨B, 0, none⟩)] w fun e w' => e = .returned (.tuple #[thZ.v, .bool false]) ∧ TTo B R n f [] w w' := by
  obtain ⟨w1, hw1⟩ : ∃ w1, w.alloc (.cells #[.string ⟨#[]⟩, .int .i64 0] 29) = w1 := ⟨_, rfl⟩
  obtain ⟨A, hA⟩ : ∃ A, w.heap.size = A := ⟨_, rfl⟩
  have k1 : Below w.heap.size w w1 := by rw [← hw1]; exact below_new w _
  have b1 : ThB w1 A thZ := by rw [← hw1, ← hA]; exact thB_new w thZ
  have h1 := h.later k1
  have HW : Hid (w.alloc (.cells #[.string ⟨#[]⟩, .int .i64 0] 29) = w1) := hw1
  have HA : Hid (w.heap.size = A) := hA
  have HFR : Hid (Calls Try.prog 11 #[.pointer (some ⟨B, 0, none⟩)] w1 fun e w' => e = .returned (.tuple #[.agg #[.string ⟨#[]⟩, .int .i64 0], .bool false]) ∧ Below w1.heap.size w1 w') := (tfront_any h1).mono fun e w' y => ⟨y.1.trans (by simp [Th.v, thZ]), y.2⟩
  have HH : Hid (TgAt w B R n f [] ∧ Below w.heap.size w w1 ∧ ThB w1 A thZ) := (⟨h, k1, b1⟩ : _ ∧ _ ∧ _)
  clear h hw1 hA k1 b1 h1
  go_enter Try.func10, Try.ntmps10
  go_upto_region 1 with fail
  rw [HW.out, HA.out]
  go_wp2_with fail
  refine HFR.out.mono ?_
  rintro e w2 ⟨rfl, k2⟩
  obtain ⟨w3, hw3⟩ : ∃ w3, w2.alloc (.cells #[.string ⟨#[]⟩, .int .i64 0] 29) = w3 := ⟨_, rfl⟩
  obtain ⟨A3, hA3⟩ : ∃ A3, w2.heap.size = A3 := ⟨_, rfl⟩
  have k3 : Below w2.heap.size w2 w3 := by rw [← hw3]; exact below_new w2 _
  have b3 : ThB w3 A3 thZ := by rw [← hw3, ← hA3]; exact thB_new w2 thZ
  have b1 := (HH.out.2.2.later k2).later k3
  have ne : A ≠ A3 := by have := (HH.out.2.2.later k2).lt; omega
  have ne2 : A3 ≠ A := fun e => ne e.symm
  have k4 : Below w.heap.size w w3 := below_step (below_step HH.out.2.1 k2) k3
  have HW3 : Hid (w2.alloc (.cells #[.string ⟨#[]⟩, .int .i64 0] 29) = w3) := hw3
  have HA3 : Hid (w2.heap.size = A3) := hA3
  obtain ⟨x0, x1⟩ := b1.cells
  obtain ⟨y0, y1⟩ := b3.cells
  have q0 := b1.frozen 0
  have q1 := b1.frozen 1
  have r0 := b3.frozen 0
  have r1 := b3.frozen 1
  have hAw : w.heap.size ≤ A := Nat.le_of_eq HA.out
  have hAw3 : w.heap.size ≤ A3 := by have := (below_step HH.out.2.1 k2).size; omega
  have k5 : Below w.heap.size w ((((w3.setCell ⟨A3, 0, none⟩ (.string ⟨#[]⟩)).setCell ⟨A3, 1, none⟩ (.int .i64 0)).setCell ⟨A, 0, none⟩ (.string ⟨#[]⟩)).setCell ⟨A, 1, none⟩ (.int .i64 0)) := below_put (below_put (below_put (below_put k4 hAw3 0 _) hAw3 1 _) hAw 0 _) hAw 1 _
  have HF : Hid (TTo B R n f [] w ((((w3.setCell ⟨A3, 0, none⟩ (.string ⟨#[]⟩)).setCell ⟨A3, 1, none⟩ (.int .i64 0)).setCell ⟨A, 0, none⟩ (.string ⟨#[]⟩)).setCell ⟨A, 1, none⟩ (.int .i64 0))) := ⟨HH.out.1.later k5, FrP.of_below _ k5⟩
  have HT : Hid (ThB ((((w3.setCell ⟨A3, 0, none⟩ (.string ⟨#[]⟩)).setCell ⟨A3, 1, none⟩ (.int .i64 0)).setCell ⟨A, 0, none⟩ (.string ⟨#[]⟩)).setCell ⟨A, 1, none⟩ (.int .i64 0)) A thZ) := (b1.same ((Below.heap_setCell _ ⟨A3, 1, none⟩ _ A ne).trans (Below.heap_setCell w3 ⟨A3, 0, none⟩ _ A ne))).put thZ
  clear hw3 hA3 k2 k3 b3 b1 k4 k5 HFR HH hAw hAw3
  go_wp2_with (rw [HW3.out, HA3.out])
  refine bodyPost_ret (th_res Try.results10 (x := thZ) (b := false) rfl rfl HT.out) rfl ?_
  exact ⟨rfl, HF.out⟩
set_option maxRecDepth 4000 in
set_option maxHeartbeats 800000 in
theorem tpop_some {w : World} {B R n f : Nat} {x : Th} {t : List Th} (h : TgAt w B R n f (x :: t)) :
    Calls Try.prog 10 #[.pointer (some ⟨B, 0, none⟩)] w fun e w' => e = .returned (.tuple #[x.v, .bool true]) ∧ TTo B R n ((f + 1) % n) t w w' := by
  obtain ⟨s, z⟩ := x
  obtain ⟨w1, hw1⟩ : ∃ w1, w.alloc (.cells #[.string ⟨#[]⟩, .int .i64 0] 29) = w1 := ⟨_, rfl⟩
  obtain ⟨A, hA⟩ : ∃ A, w.heap.size = A := ⟨_, rfl⟩
  have k1 : Below w.heap.size w w1 := by rw [← hw1]; exact below_new w _
  have b1 : ThB w1 A thZ := by rw [← hw1, ← hA]; exact thB_new w thZ
  have h1 := h.later k1
  have HW : Hid (w.alloc (.cells #[.string ⟨#[]⟩, .int .i64 0] 29) = w1) := hw1
  have HA : Hid (w.heap.size = A) := hA
  have HFR : Hid (Calls Try.prog 11 #[.pointer (some ⟨B, 0, none⟩)] w1 fun e w' => e = .returned (.tuple #[.agg #[.string s, .int .i64 z], .bool true]) ∧ Below w1.heap.size w1 w') := (tfront_any h1).mono fun e w' y => ⟨y.1.trans (by simp [Th.v]), y.2⟩
  have HH : Hid (TgAt w B R n f (⟨s, z⟩ :: t) ∧ Below w.heap.size w w1 ∧ ThB w1 A thZ) := (⟨h, k1, b1⟩ : _ ∧ _ ∧ _)
  have hfn := h.f
  obtain ⟨p, hp⟩ : ∃ p, (f + 1) % n = p := ⟨_, rfl⟩
  obtain ⟨m, hm⟩ : ∃ m, t.length = m := ⟨_, rfl⟩
  have HP : Hid ((f + 1) % n = p ∧ t.length = m) := (⟨hp, hm⟩ : _ ∧ _)
  have hm64 : m < 64 := by have y1 := h.l; have y2 := h.n; simp only [List.length_cons, hm] at y1; omega
  rw [hp]
  clear h hw1 hA k1 b1 h1 hp hm
  go_enter Try.func10, Try.ntmps10
  go_upto_region 1 with fail
  rw [HW.out, HA.out]
  go_wp2_with fail
  refine HFR.out.mono ?_
  rintro e w2 ⟨rfl, k2⟩
  obtain ⟨w3, hw3⟩ : ∃ w3, w2.alloc (.cells #[.string ⟨#[]⟩, .int .i64 0] 29) = w3 := ⟨_, rfl⟩
  obtain ⟨A3, hA3⟩ : ∃ A3, w2.heap.size = A3 := ⟨_, rfl⟩
  have k3 : Below w2.heap.size w2 w3 := by rw [← hw3]; exact below_new w2 _
  have b3 : ThB w3 A3 thZ := by rw [← hw3, ← hA3]; exact thB_new w2 thZ
  have b1 := (HH.out.2.2.later k2).later k3
  have ne : A ≠ A3 := by have := (HH.out.2.2.later k2).lt; omega
  have k4 : Below w.heap.size w w3 := below_step (below_step HH.out.2.1 k2) k3
  have HW3 : Hid (w2.alloc (.cells #[.string ⟨#[]⟩, .int .i64 0] 29) = w3) := hw3
  have HA3 : Hid (w2.heap.size = A3) := hA3
  have hAw : w.heap.size ≤ A := Nat.le_of_eq HA.out
  have hAw3 : w.heap.size ≤ A3 := by have := (below_step HH.out.2.1 k2).size; omega
  obtain ⟨w4, hw4⟩ : ∃ w4, (w3.setCell ⟨A3, 0, none⟩ (.string s)).setCell ⟨A3, 1, none⟩ (.int .i64 z) = w4 := ⟨_, rfl⟩
  have HW4 : Hid ((w3.setCell ⟨A3, 0, none⟩ (.string s)).setCell ⟨A3, 1, none⟩ (.int .i64 z) = w4) := hw4
  have k5 : Below w.heap.size w w4 := by rw [← hw4]; exact below_put (below_put k4 hAw3 0 _) hAw3 1 _
  have b4 : ThB w4 A3 ⟨s, z⟩ := by rw [← hw4]; exact b3.put ⟨s, z⟩
  have c4 : ThB w4 A thZ := by rw [← hw4]; exact b1.same ((Below.heap_setCell _ ⟨A3, 1, none⟩ _ A ne).trans (Below.heap_setCell w3 ⟨A3, 0, none⟩ _ A ne))
  obtain ⟨w5, hw5⟩ : ∃ w5, w4.alloc (.cells #[.string ⟨#[]⟩, .int .i64 0] 29) = w5 := ⟨_, rfl⟩
  obtain ⟨A5, hA5⟩ : ∃ A5, w4.heap.size = A5 := ⟨_, rfl⟩
  have k6 : Below w4.heap.size w4 w5 := by rw [← hw5]; exact below_new w4 _
  have b5 : ThB w5 A5 thZ := by rw [← hw5, ← hA5]; exact thB_new w4 thZ
  have HW5 : Hid (w4.alloc (.cells #[.string ⟨#[]⟩, .int .i64 0] 29) = w5) := hw5
  have HA5 : Hid (w4.heap.size = A5) := hA5
  have b35 := b4.later k6
  have b15 := c4.later k6
  have k7 := below_step k5 k6
  have h5 := HH.out.1.later k7
  obtain ⟨y0, y1⟩ := b3.cells
  have r0 := b3.frozen 0
  have r1 := b3.frozen 1
  obtain ⟨x0, x1⟩ := b15.cells
  obtain ⟨v0, v1⟩ := b35.cells
  have t0 : w5.cell? ⟨A5, 0, none⟩ = some (.string ⟨#[]⟩) := b5.cells.1
  have t1 : w5.cell? ⟨A5, 1, none⟩ = some (.int .i64 0) := b5.cells.2
  have HA6 : Hid (w3.heap.size = A5) := by
    have e : w4.heap.size = w3.heap.size := by rw [← hw4]; simp [World.setCell]
    show _ = _
    omega
  have q0 := b15.frozen 0
  have q1 := b15.frozen 1
  obtain ⟨c0, c1, c2⟩ := h5.b.cells
  simp only [List.length_cons, HP.out.2] at c2
  obtain ⟨c3, c3'⟩ := h5.r.cell h5.f
  have g3 := h5.r.frozen (f * 2)
  have g3' := h5.r.frozen (f * 2 + 1)
  have g1 := h5.b.frozen 1
  have g2 := h5.b.frozen 2
  have hne := h5.ne
  have hne2 : B ≠ R := fun e => hne e.symm
  have hRA : R < w.heap.size := HH.out.1.r.lt
  have hBA : B < w.heap.size := HH.out.1.b.lt
  have n1 : A ≠ R := by omega
  have n2 : A ≠ B := by omega
  have n3 : A3 ≠ R := by omega
  have n4 : A3 ≠ B := by omega
  have n5 : A5 ≠ R := by have := k5.size; omega
  have HS : Hid ((((m + 1 : Nat) : Nat) : Int) - 1 = (m : Nat)) := by show _ = _; omega
  have hpl : ∀ u, TBox u B R n f (m + 1) → Calls Try.prog 24 #[.pointer (some ⟨B, 0, none⟩), .int .i64 1] u fun e w' => e = .returned (.int .i64 (p : Nat)) ∧ w' = u.drew := fun u hu => by rw [← HP.out.1]; exact tplace_any hu HH.out.1.f HH.out.1.n 1 (by omega)
  have hb6 : TBox (((w5.setCell ⟨R, f * 2, none⟩ (.string ⟨#[]⟩)).setCell ⟨R, f * 2 + 1, none⟩ (.int .i64 0)).drew) B R n f (m + 1) := by
    have := h5.b.same (putT_block w5 R f thZ B hne2)
    simp only [List.length_cons, HP.out.2] at this
    exact this
  have HPL : Hid (Calls Try.prog 24 #[.pointer (some ⟨B, 0, none⟩), .int .i64 1] (((w5.setCell ⟨R, f * 2, none⟩ (.string ⟨#[]⟩)).setCell ⟨R, f * 2 + 1, none⟩ (.int .i64 0)).drew) fun e w' => e = .returned (.int .i64 (p : Nat)) ∧ w' = (((w5.setCell ⟨R, f * 2, none⟩ (.string ⟨#[]⟩)).setCell ⟨R, f * 2 + 1, none⟩ (.int .i64 0)).drew).drew) := hpl _ hb6
  have h8 := h5.pop
  rw [HP.out.1, HP.out.2] at h8
  simp only [putT, thZ] at h8
  obtain ⟨w8, hw8⟩ : ∃ w8, (((w5.setCell ⟨R, f * 2, none⟩ (.string ⟨#[]⟩)).setCell ⟨R, f * 2 + 1, none⟩ (.int .i64 0)).setCell ⟨B, 1, none⟩ (.int .i64 (p : Nat))).setCell ⟨B, 2, none⟩ (.int .i64 (m : Nat)) = w8 := ⟨_, rfl⟩
  rw [hw8] at h8
  have f8 : FrP (fun k => k = B ∨ k = R) w w8 := by
    rw [← hw8]
    exact ((((FrP.of_below (fun k => k = B ∨ k = R) k7).set (fun _ => .inr rfl) (f * 2) (.string ⟨#[]⟩)).set (fun _ => .inr rfl) (f * 2 + 1) (.int .i64 0)).set (fun _ => .inl rfl) 1 (.int .i64 (p : Nat))).set (fun _ => .inl rfl) 2 (.int .i64 (m : Nat))
  have b8 : ThB w8 A thZ := by
    rw [← hw8]
    exact b15.same ((Below.heap_setCell _ ⟨B, 2, none⟩ _ A n2).trans ((Below.heap_setCell _ ⟨B, 1, none⟩ _ A n2).trans ((Below.heap_setCell _ ⟨R, _, none⟩ _ A n1).trans (Below.heap_setCell w5 ⟨R, _, none⟩ _ A n1))))
  have b9 := b8.put ⟨s, z⟩
  have f9 := (f8.set (a := A) (fun hh => absurd hh (by omega)) 0 (.string s)).set (a := A) (fun hh => absurd hh (by omega)) 1 (.int .i64 z)
  have h9 : TgAt ((w8.setCell ⟨A, 0, none⟩ (.string s)).setCell ⟨A, 1, none⟩ (.int .i64 z)) B R n p t := h8.same ((Below.heap_setCell _ ⟨A, 1, none⟩ _ B (fun e => n2 e.symm)).trans (Below.heap_setCell w8 ⟨A, 0, none⟩ _ B (fun e => n2 e.symm))) ((Below.heap_setCell _ ⟨A, 1, none⟩ _ R (fun e => n1 e.symm)).trans (Below.heap_setCell w8 ⟨A, 0, none⟩ _ R (fun e => n1 e.symm)))
  rw [← hw8] at b9 f9 h9
  have HT : Hid (∀ u, u = ((((((w5.setCell ⟨R, f * 2, none⟩ (.string ⟨#[]⟩)).setCell ⟨R, f * 2 + 1, none⟩ (.int .i64 0)).setCell ⟨B, 1, none⟩ (.int .i64 (p : Nat))).setCell ⟨B, 2, none⟩ (.int .i64 (m : Nat))).setCell ⟨A, 0, none⟩ (.string s)).setCell ⟨A, 1, none⟩ (.int .i64 z)).drew.drew → ThB u A ⟨s, z⟩ ∧ TTo B R n p t w u) := fun u e => by
    subst e
    exact ⟨b9.later (tdrew2 _), h9.later (tdrew2 _), f9.below (tdrew2 _)⟩
  clear hw3 hA3 k2 k3 b3 b1 k4 hw4 k5 b4 c4 hw5 hA5 k6 b5 b35 b15 k7 h5 HFR HH hAw hAw3 hpl hb6 h8 hw8 f8 b8 b9 f9 h9 HP hRA hBA
  go_upto_region 4 with (first | rw [HW3.out, HA3.out] | rw [HW4.out, HW5.out, HA5.out])
  rw [HW4.out, HW5.out]
  first | rw [HA5.out] | rw [HA6.out]
  go_region
  go_wp2_with fail
  refine HPL.out.mono ?_
  rintro e w1 ⟨rfl, rfl⟩
  clear HPL
  go_wp2
  refine bodyPost_ret (th_res Try.results10 (x := ⟨s, z⟩) (b := true) rfl rfl (HT.out _ rfl).1) rfl ?_
  exact ⟨rfl, (HT.out _ rfl).2⟩
end Go.Proofs.Ytclcpblpmfijiaa
