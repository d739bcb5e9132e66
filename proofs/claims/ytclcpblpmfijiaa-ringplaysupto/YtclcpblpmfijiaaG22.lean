/- A pair's plays: New; any call. -/
import Derived.Test.YtclcpblpmfijiaaG21
namespace Go.Proofs.Ytclcpblpmfijiaa
open Go.RowKit Go.Maps Rg
attribute [local go_sem ↓] Go.wp_at_zero Go.wp_at_succ

section
variable {u u' : World} {D B Q : Nat} {VL VW : Value}
theorem PBox.put0 (h : PBox u D B Q VL VW) (b : Nat) : PBox (u.setCell ⟨D, 0, none⟩ (.pointer (some ⟨b, 0, none⟩))) D b Q VL VW := by unfold PBox; rw [heap_set h]; simp
theorem PBox.put1 (h : PBox u D B Q VL VW) (b : Nat) : PBox (u.setCell ⟨D, 1, none⟩ (.pointer (some ⟨b, 0, none⟩))) D B b VL VW := by unfold PBox; rw [heap_set h]; simp
end
section
variable {p : Nat} {T : Tg} {u : World} {D B R Q N f : Nat} {VQ VL VW : Value} {l l2 : List Int} {LL : List (List Int)}
theorem PAt.renew (h : PAt p T u D B R Q N f VQ VL VW l l LL) {w : World} (hb : Below u.heap.size u w) {B' R' Q' n : Nat} (hr : RgAt w B' R' n 0 []) (hq : RefB w Q' n (.slice none 0 0)) (h1 : u.heap.size ≤ B') (h2 : u.heap.size ≤ R') (h3 : u.heap.size ≤ Q') :
    PlPost p T u D LL.length ((w.setCell ⟨D, 0, none⟩ (.pointer (some ⟨B', 0, none⟩))).setCell ⟨D, 1, none⟩ (.pointer (some ⟨Q', 0, none⟩))) := by
  obtain ⟨w', hw'⟩ : ∃ w', (w.setCell ⟨D, 0, none⟩ (.pointer (some ⟨B', 0, none⟩))).setCell ⟨D, 1, none⟩ (.pointer (some ⟨Q', 0, none⟩)) = w' := ⟨_, rfl⟩
  have hF : FrP (fun k => k = D) w w' := by
    rw [← hw']
    exact ((FrP.refl (fun k => k = D) w).set (a := D) (fun _ => rfl) 0 _).set (a := D) (fun _ => rfl) 1 _
  have hD : PBox w' D B' Q' VL VW := by
    rw [← hw']
    exact ((h.d.same (hb.block D h.d.lt)).put0 B').put1 Q'
  rw [hw']
  have hlt := h.d.lt
  have nRB := hr.ne
  have nQB : Q' ≠ B' := fun e => by
    have := hq.ty
    rw [e] at this
    exact absurd (TyB.ne this hr.b.ty) (by decide)
  have nQR : Q' ≠ R' := fun e => by
    have := hq.ty
    rw [e] at this
    exact absurd (TyB.ne this hr.r.ty) (by decide)
  obtain ⟨T', hT'⟩ : ∃ T' : Tg, T' = fun k => if k < u.heap.size then T k else if k = B' then (p, 1) else if k = R' then (p, 2) else (p, 3) := ⟨_, rfl⟩
  have hT : ∀ k, k < u.heap.size → T' k = T k := fun k hk => by rw [hT']; exact if_pos hk
  have eB : T' B' = (p, 1) := by rw [hT']; show (if B' < u.heap.size then _ else _) = _; rw [if_neg (by omega), if_pos rfl]
  have eR : T' R' = (p, 2) := by rw [hT']; show (if R' < u.heap.size then _ else _) = _; rw [if_neg (by omega), if_neg nRB, if_pos rfl]
  have eQ : T' Q' = (p, 3) := by rw [hT']; show (if Q' < u.heap.size then _ else _) = _; rw [if_neg (by omega), if_neg nQB, if_neg nQR]
  have hs : ∀ k, k < u.heap.size → k ≠ D → w'.heap[k]? = u.heap[k]? := fun k hk hne => (hF.block k (Nat.lt_of_lt_of_le hk hb.size) hne).trans (hb.block k hk)
  have hn : ∀ k, u.heap.size ≤ k → k < w.heap.size → w'.heap[k]? = w.heap[k]? := fun k hk hk2 => hF.block k hk2 (fun e => by have e2 : k = D := e; omega)
  refine ⟨T', B', R', Q', n, 0, .slice none 0 0, VL, VW, [], LL, ⟨hD, hr.same (hn B' h1 hr.b.lt) (hn R' h2 hr.r.lt), hq.same (hn Q' h3 hq.lt), lx_nil _ _, h.ls.move hT (fun k r hk hr4 e => hs k hk (fun e2 => by rw [e2, h.tD] at e; cases e; omega)), (hT D hlt).trans h.tD, eB, eR, eQ⟩, ⟨hT, ?_⟩, by omega⟩
  exact (FrP.of_below (fun k => (T k).1 = p) hb).trans hF (fun k _ x => by have e2 : k = D := x; rw [e2, h.tD])
set_option maxRecDepth 8000 in
set_option maxHeartbeats 3200000 in
theorem plays_new (h : PAt p T u D B R Q N f VQ VL VW l l LL) (tw : Bool) (x : Int) :
    Calls Try.prog 20 #[.pointer (some ⟨D, 0, none⟩), opV 6 tw x] u fun e w' => e = .returned (.bool true) ∧ PlPost p T u D LL.length w' := by
  obtain ⟨w1, hw1, ob1, hb1⟩ := new_op u 6 tw x
  obtain ⟨S, hS⟩ : ∃ S, u.heap.size = S := ⟨_, rfl⟩
  rw [hS] at ob1
  obtain ⟨b0, b2⟩ := ob1.cells
  have HO : Hid (Below u.heap.size u w1 ∧ OBx w1 S 6 tw x ∧ S < w1.heap.size) := (⟨hb1, ob1, (Array.getElem?_eq_some_iff.1 ob1).1⟩ : _ ∧ _ ∧ _)
  have HS : Hid (u.heap.size = S) := hS
  have HP : Hid (PAt p T u D B R Q N f VQ VL VW l l LL) := h
  by_cases hx : x < 1 ∨ 64 < x
  · have HF : Hid (∀ w, Below u.heap.size u w → PlPost p T u D LL.length w) := fun w hb => ⟨_, _, _, _, _, _, _, _, _, _, _, h.later hb, Ext.of_below p T hb, by omega⟩
    have HX : Hid (x < 1 ∨ 64 < x) := hx
    clear h hb1 ob1 hx
    unfold opV
    go_enter Try.func20, Try.ntmps20
    go_wp2_with fail
    refine (new_bad HX.out).mono ?_
    rintro e w2 ⟨rfl, rfl⟩
    go_wp2_with fail
    refine (rref_bad HX.out).mono ?_
    rintro e w3 ⟨rfl, rfl⟩
    go_wp2_with fail
    go_ret
    exact ⟨rfl, HF.out _ HO.out.1⟩
  · obtain ⟨n, rfl⟩ := Int.eq_ofNat_of_zero_le (a := x) (by omega)
    have hn1 : 1 ≤ n ∧ n ≤ 64 := by omega
    have HX : Hid ((1 : Int) ≤ (n : Int) ∧ (n : Int) ≤ 64) := (by omega : _ ∧ _)
    clear h hb1 ob1 hx
    unfold opV
    go_enter Try.func20, Try.ntmps20
    go_wp2_with fail
    refine (new_any HX.out).mono ?_
    rintro e w2 ⟨B', R', rfl, hr, hb2, hB, hR⟩
    have HR : Hid (RgAt w2 B' R' n 0 [] ∧ Below w1.heap.size w1 w2 ∧ w1.heap.size ≤ B' ∧ w1.heap.size ≤ R') := (⟨hr, hb2, hB, hR⟩ : _ ∧ _ ∧ _ ∧ _)
    have b2 : w2.cell? ⟨S, 2, none⟩ = some (.int .i64 (n : Nat)) := cell_later hb2 _ _ _ b2
    clear hr hb2 hB hR
    go_wp2_with fail
    refine (rref_new rfl hn1).mono ?_
    rintro e w3 ⟨Q', rfl, hq, hQ, hb3⟩
    have hb : Below u.heap.size u w3 := below_step (below_step HO.out.1 HR.out.2.1) hb3
    have hw := HO.out.1.size
    have HE : Hid (PlPost p T u D LL.length ((w3.setCell ⟨D, 0, none⟩ (.pointer (some ⟨B', 0, none⟩))).setCell ⟨D, 1, none⟩ (.pointer (some ⟨Q', 0, none⟩)))) := HP.out.renew hb (HR.out.1.later hb3) hq (by have := HR.out.2.2.1; omega) (by have := HR.out.2.2.2; omega) (by have := HR.out.2.1.size; omega)
    have hd := (HP.out.later hb).d
    have r0 := hd.cells.1
    have r1 := hd.cells.2.1
    have q0 := hd.frozen 0
    have q1 := hd.frozen 1
    clear hb hw hq hQ hb3 hd
    go_wp2_with fail
    go_ret
    exact ⟨rfl, HE.out⟩
set_option maxHeartbeats 400000 in
theorem plays_any (h : PAt p T u D B R Q N f VQ VL VW l l LL) (hLL : LL.length ≤ 4000000) (kd : Int) (tw : Bool) (x : Int) :
    Calls Try.prog 20 #[.pointer (some ⟨D, 0, none⟩), opV kd tw x] u fun e w' => e = .returned (.bool true) ∧ PlPost p T u D LL.length w' := by
  by_cases h1 : kd = 1
  · subst h1; exact plays_push h tw x
  by_cases h2 : kd = 2
  · subst h2
    refine (plays_pop h tw x).mono ?_
    rintro e w' ⟨rfl, T', B', R', Q', N', f', VQ', VL', VW', a1, a2⟩
    exact ⟨rfl, _, _, _, _, _, _, _, _, _, _, _, a1, a2, by omega⟩
  by_cases h3 : kd = 3
  · subst h3; exact plays_front h tw x
  by_cases h4 : kd = 4
  · subst h4; exact plays_ask h tw x
  by_cases h5 : kd = 5
  · subst h5; exact plays_all h hLL tw x
  by_cases h6 : kd = 6
  · subst h6; exact plays_new h tw x
  exact plays_none h h1 h2 h3 h4 h5 h6 tw x
end
end Go.Proofs.Ytclcpblpmfijiaa
