/- A pair's plays: Pop, Front, asks, all, and what is no call. -/
import Derived.Test.YtclcpblpmfijiaaG20
namespace Go.Proofs.Ytclcpblpmfijiaa
open Go.RowKit Go.Maps Rg
attribute [local go_sem ↓] Go.wp_at_zero Go.wp_at_succ

section
variable {p : Nat} {T : Tg} {u : World} {D B R Q N f : Nat} {VQ VL VW : Value} {l l2 : List Int} {LL : List (List Int)}
theorem rpop_all (h : PAt p T u D B R Q N f VQ VL VW l2 l LL) (h64 : l.length ≤ 64) :
    Calls Try.prog 28 #[.pointer (some ⟨Q, 0, none⟩)] u fun e w' => e = .returned (.tuple #[.int .i64 (l.head?.getD 0), .bool (decide (0 < l.length))]) ∧ ∃ V', RefB w' Q N V' ∧ LAtX (fun b => u.heap.size ≤ b ∨ T b = (p, 6)) w' V' (ints l.tail) ∧ FrP (fun k => k = Q) u w' := by
  cases l with
  | nil =>
    refine (rpop_none h.q h.lq.1).mono ?_
    rintro e w' ⟨rfl, rfl⟩
    exact ⟨rfl, VQ, h.q, ⟨h.lq.1, fun b off n c e hn => .inr (h.lq.2 b off n c e hn)⟩, FrP.refl _ _⟩
  | cons x t =>
    refine (rpop_some h.q h.lq h64 (fun e => by rw [h.tQ] at e; cases e)).mono ?_
    rintro e w' ⟨rfl, V', h1, h2, h3⟩
    exact ⟨by simp, V', h1, ⟨h2.1, fun b off n c e hn => .inr (h2.2 b off n c e hn)⟩, h3⟩
theorem pop_all (h : PAt p T u D B R Q N f VQ VL VW l l2 LL) :
    Calls Try.prog 17 #[.pointer (some ⟨B, 0, none⟩)] u fun e w' => e = .returned (.tuple #[.int .i64 (l.head?.getD 0), .bool (decide (0 < l.length))]) ∧ ∃ f', PAt p T w' D B R Q N f' VQ VL VW l.tail l2 LL ∧ Ext p T T u w' := by
  cases l with
  | nil =>
    refine (pop_none h.g).mono ?_
    rintro e w' ⟨rfl, h1⟩
    exact ⟨rfl, _, h.ring h1⟩
  | cons x t =>
    refine (pop_some h.g).mono ?_
    rintro e w' ⟨rfl, h1⟩
    exact ⟨by simp, _, h.ring h1⟩
set_option maxRecDepth 8000 in
set_option maxHeartbeats 3200000 in
theorem plays_pop (h : PAt p T u D B R Q N f VQ VL VW l l LL) (tw : Bool) (x : Int) :
    Calls Try.prog 20 #[.pointer (some ⟨D, 0, none⟩), opV 2 tw x] u fun e w' => e = .returned (.bool true) ∧ (∃ T' B' R' Q' N' f' VQ' VL' VW', PAt p T' w' D B' R' Q' N' f' VQ' VL' VW' l.tail l.tail LL ∧ Ext p T T' u w') := by
  obtain ⟨w1, hw1, ob1, hb1⟩ := new_op u 2 tw x
  obtain ⟨S, hS⟩ : ∃ S, u.heap.size = S := ⟨_, rfl⟩
  rw [hS] at ob1
  obtain ⟨a, ha⟩ : ∃ a : Int, l.head?.getD 0 = a := ⟨_, rfl⟩
  obtain ⟨ok, hok⟩ : ∃ ok : Bool, decide (0 < l.length) = ok := ⟨_, rfl⟩
  have h64 : l.length ≤ 64 := Nat.le_trans h.g.l h.g.n
  have HPU : Hid (∀ w, Below u.heap.size u w → Calls Try.prog 17 #[.pointer (some ⟨B, 0, none⟩)] w fun e w' => e = .returned (.tuple #[.int .i64 a, .bool ok]) ∧ ∃ f', PAt p T w' D B R Q N f' VQ VL VW l.tail l LL ∧ Ext p T T u w') := fun w hb => by
    refine (pop_all (h.later hb)).mono ?_
    rintro e w' ⟨rfl, f', h1, h2⟩
    exact ⟨by rw [ha, hok], f', h1, (Ext.of_below p T hb).trans h2⟩
  have HRU : Hid (∀ w f', PAt p T w D B R Q N f' VQ VL VW l.tail l LL → Ext p T T u w → Calls Try.prog 28 #[.pointer (some ⟨Q, 0, none⟩)] w fun e w' => e = .returned (.tuple #[.int .i64 a, .bool ok]) ∧ (∃ T' B' R' Q' N' f' VQ' VL' VW', PAt p T' w' D B' R' Q' N' f' VQ' VL' VW' l.tail l.tail LL ∧ Ext p T T' u w')) := fun w f' hp hx => by
    refine (rpop_all hp h64).mono ?_
    rintro e w' ⟨rfl, V', h1, h2, h3⟩
    obtain ⟨h4, h5⟩ := hp.ref h1 h2 h3
    exact ⟨by rw [ha, hok], _, _, _, _, _, _, _, _, _, h4, hx.trans h5⟩
  obtain ⟨b0, b2⟩ := ob1.cells
  obtain ⟨d0, d1⟩ := (h.later hb1).dd
  have HO : Hid (Below u.heap.size u w1) := hb1
  clear h hb1 ob1 ha hok h64 b2
  unfold opV
  go_enter Try.func20, Try.ntmps20
  go_wp2_with fail
  refine (HPU.out _ HO.out).mono ?_
  rintro e w2 ⟨rfl, f', hp2, hx2⟩
  have HP2 : Hid (_ ∧ _) := (⟨hp2, hx2⟩ : _ ∧ _)
  obtain ⟨d0, d1⟩ := hp2.dd
  clear hp2 hx2 HPU HO
  go_wp2_with fail
  refine (HRU.out _ _ HP2.out.1 HP2.out.2).mono ?_
  rintro e w3 ⟨rfl, hp3⟩
  have HP3 : Hid (∃ T' B' R' Q' N' f' VQ' VL' VW', PAt p T' w3 D B' R' Q' N' f' VQ' VL' VW' l.tail l.tail LL ∧ Ext p T T' u w3) := hp3
  clear hp3 HP2 HRU
  go_wp2_with fail
  go_ret
  exact ⟨rfl, HP3.out⟩
set_option maxRecDepth 8000 in
set_option maxHeartbeats 3200000 in
theorem plays_front (h : PAt p T u D B R Q N f VQ VL VW l l LL) (tw : Bool) (x : Int) :
    Calls Try.prog 20 #[.pointer (some ⟨D, 0, none⟩), opV 3 tw x] u fun e w' => e = .returned (.bool true) ∧ PlPost p T u D LL.length w' := by
  obtain ⟨w1, hw1, ob1, hb1⟩ := new_op u 3 tw x
  obtain ⟨S, hS⟩ : ∃ S, u.heap.size = S := ⟨_, rfl⟩
  rw [hS] at ob1
  obtain ⟨a, ha⟩ : ∃ a : Int, l.head?.getD 0 = a := ⟨_, rfl⟩
  obtain ⟨ok, hok⟩ : ∃ ok : Bool, decide (0 < l.length) = ok := ⟨_, rfl⟩
  have h64 : l.length ≤ 64 := Nat.le_trans h.g.l h.g.n
  have HPU : Hid (∀ w, Below u.heap.size u w → Calls Try.prog 26 #[.pointer (some ⟨B, 0, none⟩)] w fun e w' => e = .returned (.tuple #[.int .i64 a, .bool ok]) ∧ w' = w.drew) := fun w hb => by
    rw [← ha, ← hok]
    exact front_any (h.later hb).g
  have HRU : Hid (∀ w, Below u.heap.size u w → Calls Try.prog 29 #[.pointer (some ⟨Q, 0, none⟩)] w fun e w' => e = .returned (.tuple #[.int .i64 a, .bool ok]) ∧ w' = w) := fun w hb => by
    rw [← ha, ← hok]
    exact rfront_any (h.later hb).q (h.later hb).lq.1 h64
  have HF : Hid (∀ w, Below u.heap.size u w → PlPost p T u D LL.length w) := fun w hb => ⟨_, _, _, _, _, _, _, _, _, _, _, h.later hb, Ext.of_below p T hb, by omega⟩
  obtain ⟨b0, b2⟩ := ob1.cells
  obtain ⟨d0, d1⟩ := (h.later hb1).dd
  have d2 : w1.drew.cell? ⟨D, 1, none⟩ = _ := d1
  have HO : Hid (Below u.heap.size u w1) := hb1
  clear h hb1 ob1 ha hok h64 b2
  unfold opV
  go_enter Try.func20, Try.ntmps20
  go_wp2_with fail
  refine (HPU.out _ HO.out).mono ?_
  rintro e w2 ⟨rfl, rfl⟩
  go_wp2_with fail
  refine (HRU.out _ (below_step HO.out (drew_below w1 1))).mono ?_
  rintro e w3 ⟨rfl, rfl⟩
  go_wp2_with fail
  go_ret
  exact ⟨rfl, HF.out _ (below_step HO.out (drew_below w1 1))⟩
set_option maxRecDepth 8000 in
set_option maxHeartbeats 3200000 in
theorem plays_ask (h : PAt p T u D B R Q N f VQ VL VW l l LL) (tw : Bool) (x : Int) :
    Calls Try.prog 20 #[.pointer (some ⟨D, 0, none⟩), opV 4 tw x] u fun e w' => e = .returned (.bool true) ∧ PlPost p T u D LL.length w' := by
  obtain ⟨w1, hw1, ob1, hb1⟩ := new_op u 4 tw x
  have HAS : Hid (Calls Try.prog 21 #[.pointer (some ⟨D, 0, none⟩)] w1 _) := asks_any (h.later hb1)
  have HF : Hid (∀ w, Below u.heap.size u w → PlPost p T u D LL.length w) := fun w hb => ⟨_, _, _, _, _, _, _, _, _, _, _, h.later hb, Ext.of_below p T hb, by omega⟩
  obtain ⟨S, hS⟩ : ∃ S, u.heap.size = S := ⟨_, rfl⟩
  rw [hS] at ob1
  obtain ⟨b0, b2⟩ := ob1.cells
  have HO : Hid (Below u.heap.size u w1) := hb1
  clear h hb1 ob1 b2
  unfold opV
  go_enter Try.func20, Try.ntmps20
  go_wp2_with fail
  refine HAS.out.mono ?_
  rintro e w2 ⟨rfl, hb2⟩
  have HB2 : Hid (Below u.heap.size u w2) := below_step HO.out hb2
  clear hb2
  go_wp2_with fail
  go_ret
  exact ⟨rfl, HF.out _ HB2.out⟩
set_option maxRecDepth 8000 in
set_option maxHeartbeats 3200000 in
theorem plays_all (h : PAt p T u D B R Q N f VQ VL VW l l LL) (hLL : LL.length ≤ 4000000) (tw : Bool) (x : Int) :
    Calls Try.prog 20 #[.pointer (some ⟨D, 0, none⟩), opV 5 tw x] u fun e w' => e = .returned (.bool true) ∧ PlPost p T u D LL.length w' := by
  obtain ⟨w1, hw1, ob1, hb1⟩ := new_op u 5 tw x
  have HAS : Hid (Calls Try.prog 22 #[.pointer (some ⟨D, 0, none⟩)] w1 fun e w' => e = .returned (.bool true) ∧ PlPost p T u D LL.length w') := by
    refine (pall_any (h.later hb1) hLL).mono ?_
    rintro e w' ⟨rfl, T', VL', VW', LL', h1, h2, h3⟩
    exact ⟨rfl, _, _, _, _, _, _, _, _, _, _, _, h1, (Ext.of_below p T hb1).trans h2, by omega⟩
  obtain ⟨S, hS⟩ : ∃ S, u.heap.size = S := ⟨_, rfl⟩
  rw [hS] at ob1
  obtain ⟨b0, b2⟩ := ob1.cells
  clear h hb1 ob1 b2 hLL
  unfold opV
  go_enter Try.func20, Try.ntmps20
  go_wp2_with fail
  refine HAS.out.mono ?_
  rintro e w2 ⟨rfl, hb2⟩
  have HB2 : Hid (PlPost p T u D LL.length w2) := hb2
  clear hb2
  go_wp2_with fail
  go_ret
  exact ⟨rfl, HB2.out⟩
set_option maxRecDepth 8000 in
set_option maxHeartbeats 3200000 in
theorem plays_none (h : PAt p T u D B R Q N f VQ VL VW l l LL) {kd : Int} (h1 : kd ≠ 1) (h2 : kd ≠ 2) (h3 : kd ≠ 3) (h4 : kd ≠ 4) (h5 : kd ≠ 5) (h6 : kd ≠ 6) (tw : Bool) (x : Int) :
    Calls Try.prog 20 #[.pointer (some ⟨D, 0, none⟩), opV kd tw x] u fun e w' => e = .returned (.bool true) ∧ PlPost p T u D LL.length w' := by
  obtain ⟨w1, hw1, ob1, hb1⟩ := new_op u kd tw x
  have HF : Hid (PlPost p T u D LL.length w1) := ⟨_, _, _, _, _, _, _, _, _, _, _, h.later hb1, Ext.of_below p T hb1, by omega⟩
  obtain ⟨S, hS⟩ : ∃ S, u.heap.size = S := ⟨_, rfl⟩
  rw [hS] at ob1
  obtain ⟨b0, b2⟩ := ob1.cells
  have g1 : (kd == 1) = false := by simp [h1]
  have g2 : (kd == 2) = false := by simp [h2]
  have g3 : (kd == 3) = false := by simp [h3]
  have g4 : (kd == 4) = false := by simp [h4]
  have g5 : (kd == 5) = false := by simp [h5]
  have g6 : (kd == 6) = false := by simp [h6]
  clear h hb1 ob1 b2
  unfold opV
  go_enter Try.func20, Try.ntmps20
  go_wp2_with fail
  go_ret
  exact ⟨rfl, HF.out⟩
end
end Go.Proofs.Ytclcpblpmfijiaa
