/- deliver's Push and New. -/
import Derived.Test.YtmdhlaccioaomaaG19
namespace Go.Proofs.Ytmdhlaccioaomaa
open Go.RowKit Go.Maps Rg Bo
attribute [local go_sem ↓] Go.wp_at_zero Go.wp_at_succ loadAl_eq storeAl_eq

theorem AlB.text {w : World} {A : Nat} {x : Al} (h : AlB w A x) : w.cell? ⟨A, 10, none⟩ = some (.string x.t) ∧ w.frozen? ⟨A, 10, none⟩ = false ∧ AlB (w.setCell ⟨A, 10, none⟩ (.string x.t)) A x := by
  have h1 := h.range 10 (.string x.t) rfl
  have h2 := (h.there 10 (by omega)).2
  rw [Nat.zero_add] at h1 h2
  refine ⟨h1, h2, ?_⟩
  unfold AlB
  rw [heap_set (show w.heap[A]? = _ from h)]
  rfl
/-- the ring turns -/
theorem DlAt.ring {u v : World} {D B R n f f' bs ms jl : Nat} {x : De} (h : DlAt u D B R n f bs ms jl x) {l : List Al} (hr : ATo B R n f' l u v) (hx : x.wi = true → 0 < l.length) : DTo D B R n bs ms jl ⟨l, x.wi, x.rf, x.wt⟩ u v := by
  obtain ⟨n1, n2, -⟩ := h.ne
  exact ⟨⟨f', h.d.same (hr.2.block D h.d.lt (fun e => e.elim n1 n2)), hr.1, ⟨hx, h.ok.rf, h.ok.wt⟩, h.bs, h.ms, h.jl⟩, hr.2.mono (fun k _ e => .inr e)⟩
set_option maxRecDepth 4000 in
theorem dpush_any {w : World} {D B R n f bs ms jl : Nat} {x : De} (h : DlAt w D B R n f bs ms jl x) (a : Al) (ha : a.t.size ≤ 281474976710656) :
    Calls Try.prog 8 #[.pointer (some ⟨D, 0, none⟩), alV a] w fun e w' => e = .returned (.int .i64 (if x.l.length = n then 180 else 0)) ∧ DTo D B R n bs ms jl ⟨if x.l.length = n then x.l else x.l ++ [a], x.wi, x.rf, x.wt⟩ w w' := by
  obtain ⟨r, hr⟩ : ∃ r : Int, (if x.l.length = n then (180 : Int) else 0) = r := ⟨_, rfl⟩
  obtain ⟨L, hL⟩ : ∃ L, (if x.l.length = n then x.l else x.l ++ [a]) = L := ⟨_, rfl⟩
  have HRL : Hid ((if x.l.length = n then (180 : Int) else 0) = r ∧ (if x.l.length = n then x.l else x.l ++ [a]) = L) := (⟨hr, hL⟩ : _ ∧ _)
  rw [hr, hL]
  clear hr hL
  obtain ⟨w1, hw1⟩ : ∃ w1, w.alloc (.cells (alC a).toArray 41) = w1 := ⟨_, rfl⟩
  obtain ⟨A, hA⟩ : ∃ A, w.heap.size = A := ⟨_, rfl⟩
  obtain ⟨b1, k1, -⟩ := box_al hw1 hA
  have hwv : w.alloc (.cells (alV a).cells 41) = w1 := hw1
  unfold Value.cells at hwv
  have HW : Hid (_ = w1) := hwv
  have HA : Hid (w.heap.size = A) := hA
  have hDl := h.d.lt
  have HH : Hid (DlAt w D B R n f bs ms jl x ∧ AlB w1 A a ∧ Below w.heap.size w w1) := (⟨h, b1, k1⟩ : _ ∧ _ ∧ _)
  have HCL : Hid (Calls Try.prog 22 #[.string a.t] w1 _) := sclone_any a.t w1 ha
  obtain ⟨t10, -, -⟩ := b1.text
  clear h hw1 hwv hA b1 k1
  go_enter Try.func8, Try.ntmps8
  go_upto_region 1 with fail
  rw [HW.out, HA.out]
  go_wp2_with fail
  refine HCL.out.mono ?_
  rintro e u2 ⟨rfl, k2⟩
  have b2 := HH.out.2.1.later k2
  obtain ⟨c10, q10, b3⟩ := b2.text
  have k3 := below_put (below_step HH.out.2.2 k2) (Nat.le_of_eq HA.out) 10 (.string a.t)
  obtain ⟨w3, hw3⟩ : ∃ w3, u2.setCell ⟨A, 10, none⟩ (.string a.t) = w3 := ⟨_, rfl⟩
  have HW3 : Hid (u2.setCell ⟨A, 10, none⟩ (.string a.t) = w3) := hw3
  rw [hw3] at b3 k3
  have d3 := HH.out.1.later (below_d k3)
  obtain ⟨c0, -⟩ := (HH.out.1.later k3).d.cells
  have l3 := b3.drew.load
  have HPU : Hid (Calls Try.prog 23 #[.pointer (some ⟨B, 0, none⟩), alV a] w3.drew fun e w' => e = .returned (.int .i64 r) ∧ DTo D B R n bs ms jl ⟨L, x.wi, x.rf, x.wt⟩ w w') := (tpush_any d3.r a).mono fun e w' z => ⟨by rw [z.1, HRL.out.1], by
    rw [← HRL.out.2]
    have z2 := d3.ring z.2 (fun e => by have := d3.ok.one e; split <;> simp <;> omega)
    exact ⟨z2.1, frp_trans (FrP.of_below _ (below_d k3)) z2.2⟩⟩
  clear b2 b3 k3 hw3 d3 k2 HCL HH
  go_upto_region 2 with fail
  rw [HW3.out]
  go_region_with (go_at_call 23; refine HPU.out.mono ?_; rintro e w4 ⟨rfl, h4⟩; have HD : Hid (DTo D B R n bs ms jl ⟨L, x.wi, x.rf, x.wt⟩ w w4) := h4; clear h4)
  all_goals
    go_wp2
    go_ret
    exact ⟨rfl, HD.out⟩
theorem dnew_bad {w : World} {q b m j : Int} (h : ¬ (1 ≤ q ∧ q ≤ 64 ∧ Tm b ∧ Tm m ∧ Tm j)) :
    Calls Try.prog 7 #[.int .i64 q, .int .i64 b, .int .i64 m, .int .i64 j] w fun e w' => e = .returned (.tuple #[.pointer none, .int .i64 1]) ∧ Below w.heap.size w w' := by
  by_cases h1 : 1 ≤ q ∧ q ≤ 64
  · have HNE : Hid (Calls Try.prog 20 #[.int .i64 q] w _) := tnew_any h1
    have HDU : Hid (∀ v, Calls Try.prog 21 #[.int .i64 0, .int .i64 b, .int .i64 m, .int .i64 0, .int .i64 0, .int .i64 j] v fun e w' => e = .returned (.tuple #[.int .i64 0, .int .i64 1]) ∧ w' = v) := fun v => by
      by_cases h2 : Tm b ∧ Tm m
      · obtain ⟨⟨b1, b2⟩, m1, m2⟩ := h2
        obtain ⟨b, rfl⟩ := Int.eq_ofNat_of_zero_le b1
        obtain ⟨m, rfl⟩ := Int.eq_ofNat_of_zero_le m1
        exact due_no2 (k := 0) (by omega) (by omega) (by omega) (fun e => h ⟨h1.1, h1.2, ⟨b1, b2⟩, ⟨m1, m2⟩, e.2.2⟩) v
      · exact due_no1 (fun e => h2 ⟨e.1, e.2.1⟩) v
    clear h h1
    go_enter Try.func7, Try.ntmps7
    go_wp2_with fail
    refine HNE.out.mono ?_
    rintro e u ⟨B, R, rfl, hn⟩
    have HB : Hid (Below w.heap.size w u) := hn.2.1
    clear hn HNE
    go_wp2_with fail
    refine (HDU.out u).mono ?_
    rintro e v ⟨rfl, rfl⟩
    go_wp2
    go_ret2
    exact ⟨rfl, HB.out⟩
  · have HNE : Hid (Calls Try.prog 20 #[.int .i64 q] w _) := tnew_bad (z := q) (by omega)
    clear h h1
    go_enter Try.func7, Try.ntmps7
    go_wp2_with fail
    refine HNE.out.mono ?_
    rintro e u ⟨rfl, rfl⟩
    go_wp2
    go_ret2
    exact ⟨rfl, Below.refl _ _⟩
def NewD (n bs ms jl D B R : Nat) (w w' : World) : Prop := DlAt w' D B R n 0 bs ms jl ⟨[], false, 0, 0⟩ ∧ Below w.heap.size w w' ∧ w.heap.size ≤ D ∧ w.heap.size ≤ B ∧ w.heap.size ≤ R
theorem dnew_any {w : World} {n bs ms jl : Nat} (hn : 1 ≤ n ∧ n ≤ 64) (hb : bs ≤ 1099511627776) (hm : ms ≤ 1099511627776) (hj : jl ≤ 1099511627776) :
    Calls Try.prog 7 #[.int .i64 (n : Nat), .int .i64 (bs : Nat), .int .i64 (ms : Nat), .int .i64 (jl : Nat)] w fun e w' => ∃ D B R, e = .returned (.tuple #[.pointer (some ⟨D, 0, none⟩), .int .i64 0]) ∧ NewD n bs ms jl D B R w w' := by
  have HNE : Hid (Calls Try.prog 20 #[.int .i64 (n : Nat)] w _) := tnew_any (z := (n : Nat)) (by omega)
  have HDU : Hid (∀ v, ∃ r : Int, Calls Try.prog 21 #[.int .i64 0, .int .i64 (bs : Nat), .int .i64 (ms : Nat), .int .i64 0, .int .i64 0, .int .i64 (jl : Nat)] v fun e w' => e = .returned (.tuple #[.int .i64 r, .int .i64 0]) ∧ w' = v) := fun v => ⟨_, due_fn (now := 0) (k := 0) (z := 0) hb hm (by omega) (by omega) hj v⟩
  have HBD : Hid (bs ≤ 1099511627776 ∧ ms ≤ 1099511627776 ∧ jl ≤ 1099511627776) := (⟨hb, hm, hj⟩ : _ ∧ _ ∧ _)
  clear hn hb hm hj
  go_enter Try.func7, Try.ntmps7
  go_wp2_with fail
  refine HNE.out.mono ?_
  rintro e u ⟨B, R, rfl, hnn⟩
  have HN : Hid (NewT (n : Nat) B R w u) := hnn
  obtain ⟨r, hr⟩ := HDU.out u
  have HR : Hid (Calls Try.prog 21 #[.int .i64 0, .int .i64 (bs : Nat), .int .i64 (ms : Nat), .int .i64 0, .int .i64 0, .int .i64 (jl : Nat)] u fun e w' => e = .returned (.tuple #[.int .i64 r, .int .i64 0]) ∧ w' = u) := hr
  clear hnn HNE hr HDU
  go_wp2_with fail
  refine HR.out.mono ?_
  rintro e v ⟨rfl, rfl⟩
  have HF : Hid (NewD n bs ms jl v.heap.size B R w (v.alloc (.cells #[.pointer (some ⟨B, 0, none⟩), .bool false, .int .i64 0, .int .i64 0, .int .i64 (bs : Nat), .int .i64 (ms : Nat), .int .i64 (jl : Nat)] 75))) := by
    obtain ⟨g1, g2, g3, g4⟩ := HN.out
    have kb := below_new v (.cells #[.pointer (some ⟨B, 0, none⟩), .bool false, .int .i64 0, .int .i64 0, .int .i64 (bs : Nat), .int .i64 (ms : Nat), .int .i64 (jl : Nat)] 75)
    exact ⟨⟨heap_alloc_new v _, g1.later kb, ⟨fun e => (by cases e), Nat.zero_le _, Nat.zero_le _⟩, HBD.out.1, HBD.out.2.1, HBD.out.2.2⟩, below_step g2 kb, g2.size, g3, g4⟩
  clear HN HR
  go_wp2
  go_ret2
  exact ⟨_, _, _, rfl, HF.out⟩
end Go.Proofs.Ytmdhlaccioaomaa
