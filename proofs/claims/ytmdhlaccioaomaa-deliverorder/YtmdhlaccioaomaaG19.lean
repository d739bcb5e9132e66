/- deliver's New, Push, Send, Answer, Queue, Full, Wait. -/
import Derived.Test.YtmdhlaccioaomaaG18
namespace Go.Proofs.Ytmdhlaccioaomaa
open Go.RowKit Go.Maps Rg Bo
attribute [local go_sem ↓] Go.wp_at_zero Go.wp_at_succ loadAl_eq storeAl_eq

theorem DS.gdone {w u : World} {D B R n f bs ms jl A : Nat} {x : De} {y : Al} (h : DS w D B R n f bs ms jl x A y u) : DTo D B R n bs ms jl x w u := h.done
/-- a call on the deliverer ahead of the box -/
theorem DS.call {w u v : World} {D B R n f bs ms jl A : Nat} {x x' : De} {y : Al} (h : DS w D B R n f bs ms jl x A y u) (h2 : DTo D B R n bs ms jl x' u v) : ∃ f', DS w D B R n f' bs ms jl x' A y v := by
  obtain ⟨⟨f', h3⟩, h4⟩ := h2
  obtain ⟨l1, l2, l3⟩ := h.lt
  have ha := h.a
  exact ⟨f', h3, frp_trans h.fr h4, h.b.same (h4.block A h.b.lt (fun e => by omega)), h.a, h.lt⟩
theorem queue_any {w : World} {D B R n f bs ms jl : Nat} {x : De} (h : DlAt w D B R n f bs ms jl x) :
    Calls Try.prog 12 #[.pointer (some ⟨D, 0, none⟩)] w fun e w' => ∃ A, e = .returned (.slice (some ⟨A, 0, none⟩) x.l.length x.l.length) ∧ ARow w' A x.l.length (fun p => x.l.getD p alZ) ∧ w.heap.size ≤ A ∧ Below w.heap.size w w' := by
  have HAL : Hid (Calls Try.prog 24 #[.pointer (some ⟨B, 0, none⟩)] w _) := tall_any h.r
  obtain ⟨c0, -⟩ := h.d.cells
  clear h
  go_enter Try.func12, Try.ntmps12
  go_wp2_with fail
  refine HAL.out.mono ?_
  rintro e u ⟨A, rfl, h⟩
  have HH : Hid (ARow u A x.l.length (fun p => x.l.getD p alZ) ∧ w.heap.size ≤ A ∧ Below w.heap.size w u) := h
  clear h
  go_wp2
  go_ret
  exact ⟨A, rfl, HH.out⟩
theorem dfull_any {w : World} {D B R n f bs ms jl : Nat} {x : De} (h : DlAt w D B R n f bs ms jl x) :
    Calls Try.prog 13 #[.pointer (some ⟨D, 0, none⟩)] w fun e w' => e = .returned (.bool (decide (x.l.length = n))) ∧ w' = w.drew := by
  have HFU : Hid (Calls Try.prog 25 #[.pointer (some ⟨B, 0, none⟩)] w _) := tfull_any h.r.b
  obtain ⟨c0, -⟩ := h.d.cells
  clear h
  go_enter Try.func13, Try.ntmps13
  go_wp2_with fail
  refine HFU.out.mono ?_
  rintro e u ⟨rfl, rfl⟩
  go_wp2
  go_ret
  exact ⟨rfl, rfl⟩
theorem wait_any {w : World} {D B R n f bs ms jl : Nat} {x : De} (h : DlAt w D B R n f bs ms jl x) :
    Calls Try.prog 14 #[.pointer (some ⟨D, 0, none⟩)] w fun e w' => e = .returned (.int .i64 (x.wt : Nat)) ∧ w' = w := by
  obtain ⟨-, -, -, c3, -⟩ := h.d.cells
  clear h
  go_enter Try.func14, Try.ntmps14
  go_wp2
  go_ret
  exact ⟨rfl, rfl⟩
set_option maxRecDepth 4000 in
theorem Send_yes {w : World} {D B R n f bs ms jl : Nat} {x : De} (h : DlAt w D B R n f bs ms jl x) (z : Int) (hm : x.may (mo z) = true) :
    Calls Try.prog 15 #[.pointer (some ⟨D, 0, none⟩), .int .i64 z] w fun e w' => e = .returned (.tuple #[alV x.one, .int .i64 ((x.rf + 1 : Nat) : Int), .bool true]) ∧ DTo D B R n bs ms jl x.sent w w' := by
  obtain ⟨w1, hw1⟩ : ∃ w1, w.alloc (.cells (alC alZ).toArray 41) = w1 := ⟨_, rfl⟩
  obtain ⟨A, hA⟩ : ∃ A, w.heap.size = A := ⟨_, rfl⟩
  have h1 := DS.start h hw1 hA
  have HW : Hid (w.alloc (.cells #[.int .i64 0, .int .i64 0, .int .i64 0, .int .i64 0, .int .i64 0, .int .i64 0, .int .i64 0, .int .i64 0, .int .i64 0, .int .i64 0, .string ⟨#[]⟩, .int .u32 0] 41) = w1) := hw1
  have HA : Hid (w.heap.size = A) := hA
  have hl : 0 < x.l.length := by
    unfold De.may at hm
    simp only [Bool.and_eq_true, decide_eq_true_eq] at hm
    exact hm.1.1
  have HS1 : Hid (DS w D B R n f bs ms jl x A alZ w1 ∧ 0 < x.l.length) := (⟨h1, hl⟩ : _ ∧ _)
  have HMO : Hid (∀ v, Calls Try.prog 27 #[.int .i64 z] v _) := moment_any z
  have HMG : Hid (∀ q, Calls Try.prog 26 #[.pointer (some ⟨D, 0, none⟩), .int .i64 (mo z : Nat)] (w1.drewN q) fun e w' => e = .returned (.bool true) ∧ w' = w1.drewN q) := fun q => by rw [← hm]; exact mayGo_any (h1.below (tdrew_below w1 q)).d (mo z)
  clear h hw1 hA h1 hl hm
  go_enter Try.func15, Try.ntmps15
  go_upto_region 1 with fail
  rw [HW.out, HA.out]
  go_quiet (first | (go_at_call 27; exact Calls.quiet_of_same (HMO.out _)) | (go_at_call 26; exact Calls.quiet_of_same (HMG.out _)))
  have h2 := HS1.out.1.below (tdrew_below w1 nq)
  have HSE : Hid (Calls Try.prog 28 #[.pointer (some ⟨D, 0, none⟩)] (w1.drewN nq) _) := send_any h2.d HS1.out.2
  have HS2 : Hid (DS w D B R n f bs ms jl x A alZ (w1.drewN nq)) := h2
  clear h2
  go_wp2_with fail
  refine HSE.out.mono ?_
  rintro e w3 ⟨rfl, k3⟩
  obtain ⟨f3, h3⟩ := HS2.out.call k3
  have h4 := h3.store x.one
  have s4 := h3.b.store x.one
  obtain ⟨w4, hw4⟩ : ∃ w4, w3.setCells A 0 (alC x.one) = w4 := ⟨_, rfl⟩
  rw [hw4] at h4 s4
  have HS4 : Hid (DS w D B R n f3 bs ms jl x.sent A x.one w4) := h4
  clear HSE HS2 HS1 k3 h3 h4 hw4
  go_wp2
  refine bodyPost_ret (al_res3 Try.results15 (x := x.one) (a := .int .i64 ((x.rf + 1 : Nat) : Int)) (b := .bool true) rfl rfl rfl HS4.out.b) rfl ?_
  exact ⟨rfl, HS4.out.done⟩
set_option maxRecDepth 4000 in
theorem Send_no {w : World} {D B R n f bs ms jl : Nat} {x : De} (h : DlAt w D B R n f bs ms jl x) (z : Int) (hm : x.may (mo z) = false) :
    Calls Try.prog 15 #[.pointer (some ⟨D, 0, none⟩), .int .i64 z] w fun e w' => e = .returned (.tuple #[alV alZ, .int .i64 0, .bool false]) ∧ DTo D B R n bs ms jl x w w' := by
  obtain ⟨w1, hw1⟩ : ∃ w1, w.alloc (.cells (alC alZ).toArray 41) = w1 := ⟨_, rfl⟩
  obtain ⟨A, hA⟩ : ∃ A, w.heap.size = A := ⟨_, rfl⟩
  have h1 := DS.start h hw1 hA
  have HW : Hid (w.alloc (.cells #[.int .i64 0, .int .i64 0, .int .i64 0, .int .i64 0, .int .i64 0, .int .i64 0, .int .i64 0, .int .i64 0, .int .i64 0, .int .i64 0, .string ⟨#[]⟩, .int .u32 0] 41) = w1) := hw1
  have HA : Hid (w.heap.size = A) := hA
  have HS1 : Hid (DS w D B R n f bs ms jl x A alZ w1) := h1
  have HMO : Hid (∀ v, Calls Try.prog 27 #[.int .i64 z] v _) := moment_any z
  have HMG : Hid (∀ q, Calls Try.prog 26 #[.pointer (some ⟨D, 0, none⟩), .int .i64 (mo z : Nat)] (w1.drewN q) fun e w' => e = .returned (.bool false) ∧ w' = w1.drewN q) := fun q => by rw [← hm]; exact mayGo_any (h1.below (tdrew_below w1 q)).d (mo z)
  clear h hw1 hA h1 hm
  go_enter Try.func15, Try.ntmps15
  go_upto_region 1 with fail
  rw [HW.out, HA.out]
  go_quiet (first | (go_at_call 27; exact Calls.quiet_of_same (HMO.out _)) | (go_at_call 26; exact Calls.quiet_of_same (HMG.out _)))
  have h2 := HS1.out.below (tdrew_below w1 nq)
  have h4 := h2.store alZ
  have s4 : (storeAl (.pointer (some ⟨A, 0, none⟩)) (.agg #[.int .i64 0, .int .i64 0, .int .i64 0, .int .i64 0, .int .i64 0, .int .i64 0, .int .i64 0, .int .i64 0, .int .i64 0, .int .i64 0, .string ⟨#[]⟩, .int .u32 0])).run Try.prog (w1.drewN nq) = .ok () ((w1.drewN nq).setCells A 0 (alC alZ)) := h2.b.store alZ
  obtain ⟨w4, hw4⟩ : ∃ w4, (w1.drewN nq).setCells A 0 (alC alZ) = w4 := ⟨_, rfl⟩
  rw [hw4] at h4 s4
  have HS4 : Hid (DS w D B R n f bs ms jl x A alZ w4) := h4
  clear HS1 h2 h4 hw4
  go_wp2
  refine bodyPost_ret (al_res3 Try.results15 (x := alZ) (a := .int .i64 0) (b := .bool false) rfl rfl rfl HS4.out.b) rfl ?_
  exact ⟨rfl, HS4.out.done⟩
set_option maxRecDepth 4000 in
theorem Ans_none {w : World} {D B R n f bs ms jl : Nat} {x : De} (h : DlAt w D B R n f bs ms jl x) (hx : x.wi = false) (yes : Bool) (z j : Int) :
    Calls Try.prog 19 #[.pointer (some ⟨D, 0, none⟩), .bool yes, .int .i64 z, .int .i64 j] w fun e w' => e = .returned (.tuple #[alV alZ, .bool false]) ∧ DTo D B R n bs ms jl x w w' := by
  obtain ⟨w1, hw1⟩ : ∃ w1, w.alloc (.cells (alC alZ).toArray 41) = w1 := ⟨_, rfl⟩
  obtain ⟨A, hA⟩ : ∃ A, w.heap.size = A := ⟨_, rfl⟩
  have h1 := DS.start h hw1 hA
  have HW : Hid (w.alloc (.cells #[.int .i64 0, .int .i64 0, .int .i64 0, .int .i64 0, .int .i64 0, .int .i64 0, .int .i64 0, .int .i64 0, .int .i64 0, .int .i64 0, .string ⟨#[]⟩, .int .u32 0] 41) = w1) := hw1
  have HA : Hid (w.heap.size = A) := hA
  obtain ⟨c0, c1, -⟩ := h1.d.d.cells
  rw [hx] at c1
  have h4 := h1.store alZ
  have s4 : (storeAl (.pointer (some ⟨A, 0, none⟩)) (.agg #[.int .i64 0, .int .i64 0, .int .i64 0, .int .i64 0, .int .i64 0, .int .i64 0, .int .i64 0, .int .i64 0, .int .i64 0, .int .i64 0, .string ⟨#[]⟩, .int .u32 0])).run Try.prog w1 = .ok () (w1.setCells A 0 (alC alZ)) := h1.b.store alZ
  obtain ⟨w4, hw4⟩ : ∃ w4, w1.setCells A 0 (alC alZ) = w4 := ⟨_, rfl⟩
  rw [hw4] at h4 s4
  have HS4 : Hid (DS w D B R n f bs ms jl x A alZ w4) := h4
  clear h hw1 hA h1 h4 hw4
  go_enter Try.func19, Try.ntmps19
  go_upto_region 1 with fail
  rw [HW.out, HA.out]
  go_wp2
  refine bodyPost_ret (al_res2 Try.results19 (x := alZ) (b := .bool false) rfl rfl HS4.out.b) rfl ?_
  exact ⟨rfl, HS4.out.done⟩
set_option maxRecDepth 4000 in
theorem Ans_yes {w : World} {D B R n f bs ms jl : Nat} {x : De} {y : Al} {t : List Al} (h : DlAt w D B R n f bs ms jl x) (hx : x.wi = true) (hl : x.l = y :: t) (z j : Int) :
    Calls Try.prog 19 #[.pointer (some ⟨D, 0, none⟩), .bool true, .int .i64 z, .int .i64 j] w fun e w' => e = .returned (.tuple #[alV y, .bool true]) ∧ DTo D B R n bs ms jl ⟨t, false, 0, 0⟩ w w' := by
  obtain ⟨w1, hw1⟩ : ∃ w1, w.alloc (.cells (alC alZ).toArray 41) = w1 := ⟨_, rfl⟩
  obtain ⟨A, hA⟩ : ∃ A, w.heap.size = A := ⟨_, rfl⟩
  have h1 := DS.start h hw1 hA
  have HW : Hid (w.alloc (.cells #[.int .i64 0, .int .i64 0, .int .i64 0, .int .i64 0, .int .i64 0, .int .i64 0, .int .i64 0, .int .i64 0, .int .i64 0, .int .i64 0, .string ⟨#[]⟩, .int .u32 0] 41) = w1) := hw1
  have HA : Hid (w.heap.size = A) := hA
  obtain ⟨c0, c1, -⟩ := h1.d.d.cells
  rw [hx] at c1
  have HTA : Hid (Calls Try.prog 33 #[.pointer (some ⟨D, 0, none⟩)] w1 _) := take_any h1.d hl
  have HS1 : Hid (DS w D B R n f bs ms jl x A alZ w1) := h1
  clear h hw1 hA h1 hx hl
  go_enter Try.func19, Try.ntmps19
  go_upto_region 1 with fail
  rw [HW.out, HA.out]
  go_wp2_with fail
  refine HTA.out.mono ?_
  rintro e w3 ⟨rfl, k3⟩
  obtain ⟨f3, h3⟩ := HS1.out.call k3
  have h4 := h3.store y
  have s4 := h3.b.store y
  obtain ⟨w4, hw4⟩ : ∃ w4, w3.setCells A 0 (alC y) = w4 := ⟨_, rfl⟩
  rw [hw4] at h4 s4
  have HS4 : Hid (DS w D B R n f3 bs ms jl ⟨t, false, 0, 0⟩ A y w4) := h4
  clear HTA HS1 k3 h3 h4 hw4
  go_wp2
  refine bodyPost_ret (al_res2 Try.results19 (x := y) (b := .bool true) rfl rfl HS4.out.b) rfl ?_
  exact ⟨rfl, HS4.out.done⟩
set_option maxRecDepth 4000 in
theorem Ans_no {w : World} {D B R n f bs ms jl : Nat} {x : De} (h : DlAt w D B R n f bs ms jl x) (hx : x.wi = true) (hr : x.rf < 1000000) (z j : Int) :
    Calls Try.prog 19 #[.pointer (some ⟨D, 0, none⟩), .bool false, .int .i64 z, .int .i64 j] w fun e w' => e = .returned (.tuple #[alV x.one, .bool true]) ∧ DTo D B R n bs ms jl (x.no bs ms jl (mo z) j) w w' := by
  obtain ⟨w1, hw1⟩ : ∃ w1, w.alloc (.cells (alC alZ).toArray 41) = w1 := ⟨_, rfl⟩
  obtain ⟨A, hA⟩ : ∃ A, w.heap.size = A := ⟨_, rfl⟩
  have h1 := DS.start h hw1 hA
  have HW : Hid (w.alloc (.cells #[.int .i64 0, .int .i64 0, .int .i64 0, .int .i64 0, .int .i64 0, .int .i64 0, .int .i64 0, .int .i64 0, .int .i64 0, .int .i64 0, .string ⟨#[]⟩, .int .u32 0] 41) = w1) := hw1
  have HA : Hid (w.heap.size = A) := hA
  obtain ⟨c0, c1, -⟩ := h1.d.d.cells
  rw [hx] at c1
  have HMO : Hid (∀ v, Calls Try.prog 27 #[.int .i64 z] v _) := moment_any z
  have HRE : Hid (Calls Try.prog 34 #[.pointer (some ⟨D, 0, none⟩), .int .i64 (mo z : Nat), .int .i64 j] w1.drew fun e w' => e = .returned (.tuple #[alV x.one, .bool true]) ∧ ∃ f', DS w D B R n f' bs ms jl (x.no bs ms jl (mo z) j) A alZ w') := (refuse_any h1.drew.d (h.ok.one hx) hr (mo_le z) j).mono fun e w' y => ⟨y.1, h1.drew.call y.2⟩
  clear h hw1 hA h1 hx hr
  go_enter Try.func19, Try.ntmps19
  go_upto_region 5 with (rw [HW.out, HA.out])
  go_region_with (first
    | (go_at_call 27; refine (HMO.out _).mono ?_; rintro e u ⟨rfl, rfl⟩)
    | (go_at_call 34; refine HRE.out.mono ?_; rintro e w3 ⟨rfl, f3, h3⟩; have s4 := h3.b.store x.one; have HS3 : Hid (DS w D B R n f3 bs ms jl (x.no bs ms jl (mo z) j) A alZ w3) := h3; clear h3))
  all_goals
    go_wp2
    refine bodyPost_ret (al_res2 Try.results19 (x := x.one) (b := .bool true) rfl rfl (HS3.out.store x.one).b) rfl ?_
    exact ⟨rfl, (HS3.out.store x.one).done⟩
end Go.Proofs.Ytmdhlaccioaomaa
