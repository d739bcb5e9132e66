/- ring's Push and Pop, of alerts. -/
import Derived.Test.YtmdhlaccioaomaaG08
namespace Go.Proofs.Ytmdhlaccioaomaa
open Go.RowKit Go.Maps Rg
attribute [local go_sem ↓] Go.wp_at_zero Go.wp_at_succ loadAl_eq storeAl_eq

theorem tdrew1 (w : World) : Below w.heap.size w w.drew := ⟨rfl, rfl, rfl, Nat.le_refl _, fun _ _ => rfl⟩
theorem frp_puts {Q : Nat → Prop} {w u : World} (h : FrP Q w u) {b : Nat} (hb : b < w.heap.size → Q b) (o : Nat) (vs : List Value) : FrP Q w (u.setCells b o vs) := by
  obtain ⟨h1, h2, h3, h4⟩ := rest_setCells b vs o u
  exact ⟨h1.trans h.os, h2.trans h.tape, h3.trans h.output, by rw [h4]; exact h.size, fun k hk hq => (other_setCells b vs o u k (fun e => hq (e ▸ hb (e ▸ hk)))).trans (h.block k hk hq)⟩
theorem box_al {w w1 : World} {A : Nat} {x : Al} (hw1 : w.alloc (.cells (alC x).toArray 41) = w1) (hA : w.heap.size = A) : AlB w1 A x ∧ Below w.heap.size w w1 ∧ w1.heap.size = A + 1 := by
  subst hw1 hA
  exact ⟨alB_new w x, below_new w _, Array.size_push ..⟩
set_option maxRecDepth 4000 in
theorem tpush_any {w : World} {B R n f : Nat} {l : List Al} (h : AgAt w B R n f l) (x : Al) :
    Calls Try.prog 23 #[.pointer (some ⟨B, 0, none⟩), alV x] w fun e w' => e = .returned (.int .i64 (if l.length = n then 180 else 0)) ∧ ATo B R n f (if l.length = n then l else l ++ [x]) w w' := by
  obtain ⟨w1, hw1⟩ : ∃ w1, w.alloc (.cells (alC x).toArray 41) = w1 := ⟨_, rfl⟩
  obtain ⟨A, hA⟩ : ∃ A, w.heap.size = A := ⟨_, rfl⟩
  obtain ⟨b1, k1, -⟩ := box_al hw1 hA
  have h1 := h.later k1
  have hwv : w.alloc (.cells (alV x).cells 41) = w1 := hw1
  unfold Value.cells at hwv
  have HW : Hid (_ = w1) := hwv
  have HA : Hid (w.heap.size = A) := hA
  have HFU : Hid (Calls Try.prog 25 #[.pointer (some ⟨B, 0, none⟩)] w1 _) := tfull_any h1.b
  by_cases e0 : l.length = n
  · rw [if_pos e0, if_pos e0]
    have hd : decide (l.length = n) = true := by simp [e0]
    rw [hd] at HFU
    have HH : Hid (ATo B R n f l w w1.drew) := ⟨h1.drew, FrP.of_below _ (below_d k1)⟩
    clear h hd e0 h1 hw1 hwv hA k1 b1
    go_enter Try.func23, Try.ntmps23
    go_upto_region 1 with fail
    rw [HW.out, HA.out]
    go_wp2_with fail
    refine HFU.out.mono ?_
    rintro e w1 ⟨rfl, rfl⟩
    go_wp2
    go_ret
    exact ⟨rfl, HH.out⟩
  · rw [if_neg e0, if_neg e0]
    have hd : decide (l.length = n) = false := by simp [e0]
    rw [hd] at HFU
    have hll := h.l
    have hnn := h.n
    have hlt : l.length < n := by omega
    obtain ⟨m, hm⟩ : ∃ m, l.length = m := ⟨_, rfl⟩
    obtain ⟨p, hp⟩ : ∃ p, (f + m) % n = p := ⟨_, rfl⟩
    have hpn : p < n := by rw [← hp]; exact place_lt h.f
    have HPL : Hid (∀ u, RBox u B R n f m → Calls Try.prog 38 #[.pointer (some ⟨B, 0, none⟩), .int .i64 (m : Nat)] u fun e w' => e = .returned (.int .i64 (p : Nat)) ∧ w' = u.drew) := fun u hu => by rw [← hp]; exact tplace_any hu h.f h.n m (by omega)
    have h3 : AgAt w1.drew.drew.drew B R n f l := h1.drew.drew.drew
    have h4 := h3.push x hlt
    have hst := h3.r.store hpn x
    have k5 := frp_puts (FrP.of_below (fun k => k = B ∨ k = R) (below_d (below_d (below_d k1)))) (b := R) (fun _ => .inr rfl) (p * 12) (alC x)
    have k6 := k5.set (a := B) (fun _ => .inl rfl) 2 (.int .i64 ((m : Int) + 1))
    have hne := h.ne
    have hne2 : B ≠ R := fun e => hne e.symm
    have b5 : RBox (w1.drew.drew.drew.setCells R (p * 12) (alC x)) B R n f m := by rw [← hm]; exact h3.b.same (other_setCells R _ _ _ B hne2)
    rw [hm, hp] at h4
    obtain ⟨w5, hw5⟩ : ∃ w5, w1.drew.drew.drew.setCells R (p * 12) (alC x) = w5 := ⟨_, rfl⟩
    rw [hw5] at h4 hst k5 k6 b5
    have HH : Hid (ATo B R n f (l ++ [x]) w (w5.setCell ⟨B, 2, none⟩ (.int .i64 ((m : Int) + 1)))) := ⟨h4, k6⟩
    have HB : Hid (RBox w1.drew.drew B R n f m) := by rw [← hm]; exact h1.drew.drew.b
    obtain ⟨c0, c1, c2⟩ := h1.b.cells
    rw [hm] at c2
    have c5 := b5.cells.2.2
    have q5 := b5.frozen 2
    have l1 := b1.drew.load
    have l2 := b1.drew.drew.load
    have l3 := b1.drew.drew.drew.load
    have hm64 : m < 64 := by omega
    clear h h1 h3 h4 hd e0 hp hll hlt hm hw1 hwv hA k1 b1 b5 k5 k6 hw5
    go_enter Try.func23, Try.ntmps23
    go_upto_region 1 with fail
    rw [HW.out, HA.out]
    go_wp2_with fail
    refine HFU.out.mono ?_
    rintro e w1 ⟨rfl, rfl⟩
    clear HFU
    go_upto_region 3 with fail
    go_region_with (go_at_call 38; refine (HPL.out _ HB.out).mono ?_; rintro e u ⟨rfl, rfl⟩)
    all_goals
      go_wp2_with fail
      go_ret
      exact ⟨rfl, HH.out⟩
set_option maxRecDepth 4000 in
theorem tpop_none {w : World} {B R n f : Nat} (h : AgAt w B R n f []) :
    Calls Try.prog 43 #[.pointer (some ⟨B, 0, none⟩)] w fun e w' => e = .returned (.tuple #[alV alZ, .bool false]) ∧ ATo B R n f [] w w' := by
  obtain ⟨w1, hw1⟩ : ∃ w1, w.alloc (.cells (alC alZ).toArray 41) = w1 := ⟨_, rfl⟩
  obtain ⟨A, hA⟩ : ∃ A, w.heap.size = A := ⟨_, rfl⟩
  obtain ⟨b1, k1, -⟩ := zal_new hw1 hA
  have HW : Hid (w.alloc (.cells #[.int .i64 0, .int .i64 0, .int .i64 0, .int .i64 0, .int .i64 0, .int .i64 0, .int .i64 0, .int .i64 0, .int .i64 0, .int .i64 0, .string ⟨#[]⟩, .int .u32 0] 41) = w1) := hw1
  have HA : Hid (w.heap.size = A) := hA
  have HFR : Hid (Calls Try.prog 40 #[.pointer (some ⟨B, 0, none⟩)] w1 fun e w' => e = .returned (.tuple #[alV alZ, .bool false]) ∧ Below w1.heap.size w1 w') := tfront_any (h.later k1)
  have HH : Hid (AgAt w B R n f [] ∧ Below w.heap.size w w1 ∧ AlB w1 A alZ) := (⟨h, k1, b1⟩ : _ ∧ _ ∧ _)
  clear h hw1 hA k1 b1
  go_enter Try.func43, Try.ntmps43
  go_upto_region 1 with fail
  rw [HW.out, HA.out]
  go_wp2_with fail
  refine HFR.out.mono ?_
  rintro e w2 ⟨rfl, k2⟩
  obtain ⟨w3, hw3⟩ : ∃ w3, w2.alloc (.cells (alC alZ).toArray 41) = w3 := ⟨_, rfl⟩
  obtain ⟨A3, hA3⟩ : ∃ A3, w2.heap.size = A3 := ⟨_, rfl⟩
  obtain ⟨b3, k3, -⟩ := zal_new hw3 hA3
  have b1 := (HH.out.2.2.later k2).later k3
  have ne : A ≠ A3 := by have := (HH.out.2.2.later k2).lt; omega
  have k4 : Below w.heap.size w w3 := below_step (below_step HH.out.2.1 k2) k3
  have HW3 : Hid (w2.alloc (.cells #[.int .i64 0, .int .i64 0, .int .i64 0, .int .i64 0, .int .i64 0, .int .i64 0, .int .i64 0, .int .i64 0, .int .i64 0, .int .i64 0, .string ⟨#[]⟩, .int .u32 0] 41) = w3) := hw3
  have HA3 : Hid (w2.heap.size = A3) := hA3
  have hAw : w.heap.size ≤ A := Nat.le_of_eq HA.out
  have hAw3 : w.heap.size ≤ A3 := by have := (below_step HH.out.2.1 k2).size; omega
  have s3 := b3.store alZ
  have b4 := b3.put alZ
  have k5 := below_puts k4 hAw3 0 (alC alZ)
  have b5 := b1.same (other_setCells A3 (alC alZ) 0 w3 A ne)
  obtain ⟨w4, hw4⟩ : ∃ w4, w3.setCells A3 0 (alC alZ) = w4 := ⟨_, rfl⟩
  rw [hw4] at s3 b4 k5 b5
  have l4 := b4.load
  have s4 := b5.store alZ
  have b6 := b5.put alZ
  have k6 := below_puts k5 hAw 0 (alC alZ)
  obtain ⟨w5, hw5⟩ : ∃ w5, w4.setCells A 0 (alC alZ) = w5 := ⟨_, rfl⟩
  rw [hw5] at s4 b6 k6
  have HF : Hid (ATo B R n f [] w w5) := ⟨HH.out.1.later k6, FrP.of_below _ k6⟩
  have HT : Hid (AlB w5 A alZ) := b6
  clear hw3 hA3 k2 k3 b3 b1 k4 k5 k6 b4 b5 b6 HFR HH hAw hAw3 hw4 hw5
  go_wp2_with (rw [HW3.out, HA3.out])
  refine bodyPost_ret (al_res2 Try.results43 (x := alZ) (b := .bool false) rfl rfl HT.out) rfl ?_
  exact ⟨rfl, HF.out⟩
set_option maxRecDepth 4000 in
set_option maxHeartbeats 800000 in
theorem tpop_some {w : World} {B R n f : Nat} {x : Al} {t : List Al} (h : AgAt w B R n f (x :: t)) :
    Calls Try.prog 43 #[.pointer (some ⟨B, 0, none⟩)] w fun e w' => e = .returned (.tuple #[alV x, .bool true]) ∧ ATo B R n ((f + 1) % n) t w w' := by
  obtain ⟨w1, hw1⟩ : ∃ w1, w.alloc (.cells (alC alZ).toArray 41) = w1 := ⟨_, rfl⟩
  obtain ⟨A, hA⟩ : ∃ A, w.heap.size = A := ⟨_, rfl⟩
  obtain ⟨b1, k1, -⟩ := zal_new hw1 hA
  have HW : Hid (w.alloc (.cells #[.int .i64 0, .int .i64 0, .int .i64 0, .int .i64 0, .int .i64 0, .int .i64 0, .int .i64 0, .int .i64 0, .int .i64 0, .int .i64 0, .string ⟨#[]⟩, .int .u32 0] 41) = w1) := hw1
  have HA : Hid (w.heap.size = A) := hA
  have HFR : Hid (Calls Try.prog 40 #[.pointer (some ⟨B, 0, none⟩)] w1 fun e w' => e = .returned (.tuple #[alV x, .bool true]) ∧ Below w1.heap.size w1 w') := (tfront_any (h.later k1)).mono fun e w' y => ⟨y.1.trans (by simp), y.2⟩
  have HH : Hid (AgAt w B R n f (x :: t) ∧ Below w.heap.size w w1 ∧ AlB w1 A alZ) := (⟨h, k1, b1⟩ : _ ∧ _ ∧ _)
  obtain ⟨p, hp⟩ : ∃ p, (f + 1) % n = p := ⟨_, rfl⟩
  obtain ⟨m, hm⟩ : ∃ m, t.length = m := ⟨_, rfl⟩
  have HP : Hid ((f + 1) % n = p ∧ t.length = m) := (⟨hp, hm⟩ : _ ∧ _)
  have hm64 : m < 64 := by have y1 := h.l; have y2 := h.n; simp only [List.length_cons, hm] at y1; omega
  have hfn := h.f
  rw [hp]
  clear h hw1 hA k1 b1 hp hm
  go_enter Try.func43, Try.ntmps43
  go_upto_region 1 with fail
  rw [HW.out, HA.out]
  go_wp2_with fail
  refine HFR.out.mono ?_
  rintro e w2 ⟨rfl, k2⟩
  obtain ⟨w3, hw3⟩ : ∃ w3, w2.alloc (.cells (alC alZ).toArray 41) = w3 := ⟨_, rfl⟩
  obtain ⟨A3, hA3⟩ : ∃ A3, w2.heap.size = A3 := ⟨_, rfl⟩
  obtain ⟨b3, k3, z3⟩ := zal_new hw3 hA3
  have b1 := (HH.out.2.2.later k2).later k3
  have ne : A ≠ A3 := by have := (HH.out.2.2.later k2).lt; omega
  have k4 : Below w.heap.size w w3 := below_step (below_step HH.out.2.1 k2) k3
  have HW3 : Hid (w2.alloc (.cells #[.int .i64 0, .int .i64 0, .int .i64 0, .int .i64 0, .int .i64 0, .int .i64 0, .int .i64 0, .int .i64 0, .int .i64 0, .int .i64 0, .string ⟨#[]⟩, .int .u32 0] 41) = w3) := hw3
  have HA3 : Hid (w2.heap.size = A3) := hA3
  have hAw : w.heap.size ≤ A := Nat.le_of_eq HA.out
  have hAw3 : w.heap.size ≤ A3 := by have := (below_step HH.out.2.1 k2).size; omega
  have s3 := b3.store x
  have b4 := b3.put x
  have k5 := below_puts k4 hAw3 0 (alC x)
  have c4 := b1.same (other_setCells A3 (alC x) 0 w3 A ne)
  have z4 := (rest_setCells A3 (alC x) 0 w3).2.2.2
  obtain ⟨w4, hw4⟩ : ∃ w4, w3.setCells A3 0 (alC x) = w4 := ⟨_, rfl⟩
  rw [hw4] at s3 b4 k5 c4 z4
  obtain ⟨w5, hw5⟩ : ∃ w5, w4.alloc (.cells (alC alZ).toArray 41) = w5 := ⟨_, rfl⟩
  obtain ⟨A5, hA5⟩ : ∃ A5, w4.heap.size = A5 := ⟨_, rfl⟩
  obtain ⟨b5, k6, -⟩ := zal_new hw5 hA5
  have HW5 : Hid (w4.alloc (.cells #[.int .i64 0, .int .i64 0, .int .i64 0, .int .i64 0, .int .i64 0, .int .i64 0, .int .i64 0, .int .i64 0, .int .i64 0, .int .i64 0, .string ⟨#[]⟩, .int .u32 0] 41) = w5) := hw5
  have HA5 : Hid (w4.heap.size = A5) := hA5
  have b35 := b4.later k6
  have b15 := c4.later k6
  have k7 := below_step k5 k6
  have h5 := HH.out.1.later k7
  have h6 := h5.drew
  have hRA : R < w.heap.size := HH.out.1.r.lt
  have hBA : B < w.heap.size := HH.out.1.b.lt
  have n1 : A ≠ R := by omega
  have n2 : A ≠ B := by omega
  have n3 : A3 ≠ R := by omega
  have n4 : A3 ≠ B := by omega
  have n5 : A5 ≠ R := by have := k5.size; omega
  have hne2 : B ≠ R := fun e => h5.ne e.symm
  have l5 := b5.drew.load
  obtain ⟨c0, c1, c2⟩ := h5.b.cells
  simp only [List.length_cons, HP.out.2] at c2
  -- the place is laid back to zero
  have s6 := h6.r.store h6.f alZ
  have h8 := h6.pop
  have r6 : RBox (w5.drew.setCells R (f * 12) (alC alZ)) B R n f (m + 1) := by
    have := h6.b.same (other_setCells R (alC alZ) (f * 12) w5.drew B hne2)
    simp only [List.length_cons, HP.out.2] at this
    exact this
  have f6 := frp_puts (FrP.of_below (fun k => k = B ∨ k = R) (below_d k7)) (b := R) (fun _ => .inr rfl) (f * 12) (alC alZ)
  have b16 := b15.drew.same (other_setCells R (alC alZ) (f * 12) w5.drew A n1)
  have b36 := b35.drew.same (other_setCells R (alC alZ) (f * 12) w5.drew A3 n3)
  rw [HP.out.1, HP.out.2] at h8
  obtain ⟨w6, hw6⟩ : ∃ w6, w5.drew.setCells R (f * 12) (alC alZ) = w6 := ⟨_, rfl⟩
  rw [hw6] at s6 h8 r6 f6 b16 b36
  have HPL : Hid (Calls Try.prog 38 #[.pointer (some ⟨B, 0, none⟩), .int .i64 1] w6 fun e w' => e = .returned (.int .i64 (p : Nat)) ∧ w' = w6.drew) := by rw [← HP.out.1]; exact tplace_any r6 HH.out.1.f HH.out.1.n 1 (by omega)
  have HS : Hid ((((m + 1 : Nat) : Nat) : Int) - 1 = (m : Nat)) := by show _ = _; omega
  obtain ⟨d0, d1, d2⟩ := r6.cells
  have g1 := r6.frozen 1
  have g2 := r6.frozen 2
  -- the end
  have h9 := h8.drew
  have f9 := ((f6.set (a := B) (fun _ => .inl rfl) 1 (.int .i64 (p : Nat))).set (a := B) (fun _ => .inl rfl) 2 (.int .i64 (m : Nat))).below (tdrew1 _)
  have b19 := (b16.same ((Below.heap_setCell _ ⟨B, 2, none⟩ (.int .i64 (m : Nat)) A n2).trans (Below.heap_setCell w6 ⟨B, 1, none⟩ (.int .i64 (p : Nat)) A n2))).drew
  have b39 := (b36.same ((Below.heap_setCell _ ⟨B, 2, none⟩ (.int .i64 (m : Nat)) A3 n4).trans (Below.heap_setCell w6 ⟨B, 1, none⟩ (.int .i64 (p : Nat)) A3 n4))).drew
  have l9 := b39.load
  have s9 := b19.store x
  have b10 := b19.put x
  have f10 := frp_puts f9 (b := A) (fun hh => absurd hh (by omega)) 0 (alC x)
  have h10 := h9.same (other_setCells A (alC x) 0 _ B (fun e => n2 e.symm)) (other_setCells A (alC x) 0 _ R (fun e => n1 e.symm))
  obtain ⟨w10, hw10⟩ : ∃ w10, (((w6.setCell ⟨B, 1, none⟩ (.int .i64 (p : Nat))).setCell ⟨B, 2, none⟩ (.int .i64 (m : Nat))).drew).setCells A 0 (alC x) = w10 := ⟨_, rfl⟩
  rw [hw10] at s9 b10 f10 h10
  have HT : Hid (AlB w10 A x ∧ ATo B R n p t w w10) := (⟨b10, h10, f10⟩ : _ ∧ _)
  clear hw3 hA3 k2 k3 b3 b1 k4 hw4 k5 b4 c4 hw5 hA5 k6 b5 b35 b15 k7 h5 HFR HH hAw hAw3 h6 h8 r6 f6 b16 b36 hw6 h9 f9 b19 b39 b10 f10 h10 hw10 HP hRA hBA z3 z4
  go_upto_region 4 with (first | rw [HW3.out, HA3.out] | rw [HW5.out, HA5.out])
  try rw [HW5.out, HA5.out]
  go_region
  go_wp2_with fail
  refine HPL.out.mono ?_
  rintro e w1 ⟨rfl, rfl⟩
  clear HPL
  go_wp2
  refine bodyPost_ret (al_res2 Try.results43 (x := x) (b := .bool true) rfl rfl HT.out.1) rfl ?_
  exact ⟨rfl, HT.out.2⟩
end Go.Proofs.Ytmdhlaccioaomaa
