/- subset.Right. -/
import Derived.Test.YtdngileimmgdnaaDoorG08
namespace Go.Proofs.YtdngileimmgdnaaDoor
open Go.RowKit
attribute [local go_sem ↓] Go.wp_at_zero Go.wp_at_succ

theorem rowsT_any {w : World} {d : Dt} {V1 V2 V3 : Value} {Us : List Value} (h : DfAt w d V1 V2 V3 Us) : (Us.any fun U => !rowOk d.C d.S (rdInts w U)) = !rowsT d := by
  have e : Us.map (rdInts w) = d.nx := by
    apply List.ext_getElem?
    intro s
    rw [List.getElem?_map]
    by_cases hs : s < d.S
    · have hU : Us[s]? = some (Us[s]'(by rw [h.n]; exact hs)) := List.getElem?_eq_getElem _
      rw [hU, Option.map_some, rdInts_eq (h.row s _ hU)]
      unfold Dt.row
      rw [List.getD_eq_getElem?_getD, List.getElem?_eq_getElem (show s < d.nx.length from hs)]
      rfl
    · rw [List.getElem?_eq_none (by rw [h.n]; omega), List.getElem?_eq_none (by unfold Dt.S at hs; omega)]
      rfl
  have e2 : (Us.any fun U => !rowOk d.C d.S (rdInts w U)) = (Us.map (rdInts w)).any (fun r => !rowOk d.C d.S r) := by rw [List.any_map]; rfl
  rw [e2, e]
  unfold rowsT
  generalize d.nx = l
  induction l with
  | nil => rfl
  | cons r l ih => simp only [List.any_cons, List.all_cons, ih]; rw [Bool.not_and]; rfl
theorem lat_class {w : World} {D : Nat} {f : Nat → Int} {V1 V2 V3 : Value} (h : DB w D f V1 V2 V3) : LAt w (.slice (some ⟨D, 0, none⟩) 256 256) (ints ((List.range 256).map f)) := by
  refine ⟨some ⟨D, 0, none⟩, 256, by simp [ints], by simp [ints], by omega, .inr ⟨D, 0, rfl, fun k v hv => ?_⟩⟩
  have hk : k < 256 := by
    have := (List.getElem?_eq_some_iff.1 hv).1
    simpa [ints] using this
  simp [ints, hk] at hv
  subst hv
  rw [Nat.zero_add]
  exact h.lo hk
theorem range_all (f : Nat → Int) (g : Int → Bool) (n : Nat) : ((List.range n).map f).all g = (List.range n).all fun b => g (f b) := by rw [List.all_map]; rfl
structure RiW (w w3 : World) (D : Nat) (d : Dt) (V1 V2 V3 : Value) (Us : List Value) : Prop where
  db : DB w3 D d.cl V1 V2 V3
  s : BX w3 (D + 1) (.int .i64 (d.S : Nat)) 3
  c : BX w3 (D + 2) (.int .i64 (d.C : Nat)) 3
  t : DfAt w3 d V1 V2 V3 Us
  low : Below w.heap.size w w3
theorem RiW.later {w w3 w4 : World} {D : Nat} {d : Dt} {V1 V2 V3 : Value} {Us : List Value} (h : RiW w w3 D d V1 V2 V3 Us) (hb : Below w3.heap.size w3 w4) : RiW w w4 D d V1 V2 V3 Us :=
  ⟨h.db.later hb, h.s.later hb, h.c.later hb, h.t.later hb, below_step h.low hb⟩
set_option maxRecDepth 20000 in
set_option maxHeartbeats 8000000 in
theorem right_any (d : Dt) (V1 V2 V3 : Value) (Us : List Value) (w : World) (hd : DfAt w d V1 V2 V3 Us) :
    Calls Tryd.prog 11 #[.agg (dv d.cl V1 V2 V3)] w fun e w' => e = .returned (.bool (rightT d)) ∧ Below w.heap.size w w' := by
  obtain ⟨a1, c1, a2, c2, a3, c3, e1, e2, e3, l1, m1, l2, m2, l3, m3⟩ := hd.forms
  obtain ⟨w1, hw1⟩ : ∃ w1, w.alloc (.cells (dv d.cl V1 V2 V3) 26) = w1 := ⟨_, rfl⟩
  obtain ⟨w2, hw2⟩ : ∃ w2, w1.alloc (.cells #[.int .i64 (d.S : Nat)] 3) = w2 := ⟨_, rfl⟩
  obtain ⟨w3, hw3⟩ : ∃ w3, w2.alloc (.cells #[.int .i64 (d.C : Nat)] 3) = w3 := ⟨_, rfl⟩
  obtain ⟨D, hD⟩ : ∃ D, w.heap.size = D := ⟨_, rfl⟩
  have z1 : w1.heap.size = D + 1 := by rw [← hw1, ← hD]; simp
  have z2 : w2.heap.size = D + 2 := by rw [← hw2]; simp [z1]
  have k1 : Below w.heap.size w w1 := by rw [← hw1]; exact (Below.refl _ _).alloc (Nat.le_refl _) _
  have k2 : Below w1.heap.size w1 w2 := by rw [← hw2]; exact (Below.refl _ _).alloc (Nat.le_refl _) _
  have k3 : Below w2.heap.size w2 w3 := by rw [← hw3]; exact (Below.refl _ _).alloc (Nat.le_refl _) _
  have d1 : DB w1 D d.cl V1 V2 V3 := by rw [← hw1, ← hD]; exact db_new w _ V1 V2 V3
  have b2 : BX w2 (D + 1) (.int .i64 (d.S : Nat)) 3 := by have := bx_new w1 (.int .i64 (d.S : Nat)) 3; rw [hw2, z1] at this; exact this
  have b3 : BX w3 (D + 2) (.int .i64 (d.C : Nat)) 3 := by have := bx_new w2 (.int .i64 (d.C : Nat)) 3; rw [hw3, z2] at this; exact this
  have HR3 : Hid (RiW w w3 D d V1 V2 V3 Us) := ⟨(d1.later k2).later k3, b2.later k3, b3, ((hd.later k1).later k2).later k3, below_step (below_step k1 k2) k3⟩
  have HKB2 : Hid (Below w.heap.size w w2) := below_step k1 k2
  obtain ⟨p1, p2, p3⟩ := d1.hi
  obtain ⟨q1, q2, q3⟩ := (d1.later k2).hi
  have q4 := b2.cell
  have HW1 : Hid (w.alloc (.cells (dv d.cl V1 V2 V3) 26) = w1) := hw1
  have HDD : Hid (w.heap.size = D) := hD
  have HZ1 : Hid (w1.heap.size = D + 1) := z1
  have HZ2 : Hid (w2.heap.size = D + 2) := z2
  rw [e1] at p1 q1
  rw [e2] at p2 q2
  rw [e3] at p3 q3
  obtain ⟨S, hS⟩ : ∃ S, d.S = S := ⟨_, rfl⟩
  obtain ⟨nf, hnf⟩ : ∃ nf, d.fo.length = nf := ⟨_, rfl⟩
  obtain ⟨ne, hne⟩ : ∃ ne, d.en.length = ne := ⟨_, rfl⟩
  obtain ⟨C, hC⟩ : ∃ C, d.C = C := ⟨_, rfl⟩
  have HSZ : Hid (sizesT d = decide (1 ≤ S ∧ S ≤ 4096 ∧ nf = S ∧ ne = S)) := by show _ = _; unfold sizesT; rw [hS, hnf, hne]
  have HCT : Hid (classesT d = (decide (1 ≤ C ∧ C ≤ 256) && (List.range 256).all fun b => blw C (d.cl b))) := by show _ = _; unfold classesT; rw [hC]
  rw [hS] at p1 q1 q4 hw2 l1
  rw [hnf] at p2 q2 l2
  rw [hne] at p3 q3 l3
  rw [hC] at hw3
  have HW2 : Hid (w1.alloc (.cells #[.int .i64 (S : Nat)] 3) = w2) := hw2
  have HW3 : Hid (w2.alloc (.cells #[.int .i64 (C : Nat)] 3) = w3) := hw3
  have HSS : Hid (d.S = S) := hS
  have HNF : Hid (d.fo.length = nf) := hnf
  have HNE : Hid (d.en.length = ne) := hne
  have HCC : Hid (d.C = C) := hC
  have HE1 : Hid (V1 = .slice a1 d.S c1) := e1
  have HRT : Hid (rightT d = (sizesT d && (classesT d && (rowsT d && foundT d)))) := rfl
  obtain ⟨ok, hok⟩ : ∃ ok, rightT d = ok := ⟨_, rfl⟩
  rw [hok] at HRT ⊢
  have HT1 : Hid (DfAt w2 d V1 V2 V3 Us) := (hd.later k1).later k2
  clear hw1 hw2 hw3 hD z1 z2 k1 k2 k3 d1 b2 b3 hS hnf hne hC hok hd e1 e2 e3
  have hmf : ∀ (fn : Fn) (first cap : Array Value) (w : World), (Instr.makeFunc fn first cap).run Tryd.prog w = .ok (.func fn first cap) w := fun _ _ _ _ => rfl
  go_enter Tryd.func11, Tryd.ntmps11
  go_upto_region 1 with fail
  rw [HW1.out, HDD.out]
  clear HW1
  go_upto_region 2 with fail
  rw [HW2.out, HZ1.out]
  clear HW2
  have hno : ∀ {P : Prop}, sizesT d = false → (ok = false → P) → P := fun h k => k (by rw [HRT.out, h]; rfl)
  have HNO : Hid (sizesT d = false → ok = false) := fun h => by rw [HRT.out, h]; rfl
  clear hno
  by_cases h1 : S < 1
  · have HF : Hid (ok = false) := HNO.out (by rw [HSZ.out]; simp; omega)
    go_wp2
    go_ret
    exact ⟨by rw [HF.out]; rfl, HKB2.out⟩
  by_cases h2 : 4096 < S
  · have HF : Hid (ok = false) := HNO.out (by rw [HSZ.out]; simp; omega)
    go_wp2
    go_ret
    exact ⟨by rw [HF.out]; rfl, HKB2.out⟩
  by_cases h3 : nf = S
  case neg =>
    have g3 : ((nf : Int) != (S : Int)) = true := by simp; omega
    have HF : Hid (ok = false) := HNO.out (by rw [HSZ.out]; simp; omega)
    go_wp2
    go_ret
    exact ⟨by rw [HF.out]; rfl, HKB2.out⟩
  have g3 : ((nf : Int) != (S : Int)) = false := by simp [h3]
  by_cases h4 : ne = S
  case neg =>
    have g4 : ((ne : Int) != (S : Int)) = true := by simp; omega
    have HF : Hid (ok = false) := HNO.out (by rw [HSZ.out]; simp; omega)
    have H3 : Hid (nf = S) := h3
    clear h3
    go_wp2
    go_ret
    exact ⟨by rw [HF.out]; rfl, HKB2.out⟩
  have g4 : ((ne : Int) != (S : Int)) = false := by simp [h4]
  have HSY : Hid (sizesT d = true) := by show _ = _; rw [HSZ.out]; simp; omega
  have H3 : Hid (nf = S) := h3
  have H4 : Hid (ne = S) := h4
  clear h3 h4 HNO HSZ
  have hs0 : 0 < S := by omega
  obtain ⟨b1, o1, U0, rfl, hc0, hU0⟩ := HT1.out.rowAt (s := 0) (by rw [HSS.out]; exact hs0) HE1.out
  obtain ⟨ua, uc, eU, lU, mU, _⟩ := hU0.intAt
  have hlen0 : (d.row 0).length = C := by rw [← HCC.out]; rfl
  rw [hlen0] at eU lU
  subst eU
  rw [Nat.add_zero] at hc0
  clear hU0 hlen0
  go_upto_region 5 with fail
  rw [HW3.out, HZ2.out]
  clear HW3 hc0
  have HNO : Hid (classesT d = false → ok = false) := fun h => by rw [HRT.out, h, HSY.out]; rfl
  have r0 := HR3.out.c.cell
  rw [HCC.out] at r0
  clear p1 p2 p3 q1 q2 q3 q4
  have HR3B : Hid (Below w.heap.size w w3) := HR3.out.low
  by_cases h5 : C < 1
  · have HF : Hid (ok = false) := HNO.out (by rw [HCT.out]; simp; omega)
    have hd5 : decide ((C : Int) < 1) = true := by simp; omega
    go_quiet (fail)
    have HBE : Hid (Below w.heap.size w (w3.drewN nq)) := below_drewN HR3B.out _
    go_wp2
    go_ret
    exact ⟨by rw [HF.out]; rfl, HBE.out⟩
  have hd5 : decide ((C : Int) < 1) = false := by simp; omega
  by_cases h6 : 256 < C
  · have HF : Hid (ok = false) := HNO.out (by rw [HCT.out]; simp; omega)
    have hd6 : decide ((256 : Int) < (C : Int)) = true := by simp; omega
    go_quiet (fail)
    have HBE : Hid (Below w.heap.size w (w3.drewN nq)) := below_drewN HR3B.out _
    go_wp2
    go_ret
    exact ⟨by rw [HF.out]; rfl, HBE.out⟩
  have hd6 : decide ((256 : Int) < (C : Int)) = false := by simp; omega
  have HCY : Hid (classesT d = (List.range 256).all fun b => blw C (d.cl b)) := by show _ = _; rw [HCT.out, decide_eq_true (show 1 ≤ C ∧ C ≤ 256 by omega)]; rfl
  have hne : Nonempty (Later w3) := ⟨⟨w3, Below.refl _ _⟩⟩
  have hcc : ∀ u : Later w3, u.at_.cell? ⟨D + 2, 0, none⟩ = some (.int .i64 (C : Nat)) := fun u => by have := (HR3.out.c.later u.below).cell; rw [HCC.out] at this; exact this
  have HCV : Hid (∀ u : Later w3, Calls Tryd.prog 25 #[.int .i64 (C : Nat), .slice (some ⟨D, 0, none⟩) 256 256] u.at_ fun e w' => e = .returned (.bool ((List.range 256).all fun b => blw C (d.cl b))) ∧ Below u.at_.heap.size u.at_ w') := fun u => by
    have := allBelow_any C ((List.range 256).map d.cl) _ u.at_ (lat_class (HR3.out.db.later u.below))
    rw [range_all] at this
    exact this
  obtain ⟨vc, hvc⟩ : ∃ vc, ((List.range 256).all fun b => blw C (d.cl b)) = vc := ⟨_, rfl⟩
  rw [hvc] at HCV HCY
  clear hvc HCT
  refine wp_region_later (by kernel_rfl) (by kernel_rfl) ?_
  repeat (first
    | go_big_quiet_step (((go_at_call 25; exact calls_later (HCV.out _))))
    | quiet_step (((go_at_call 25; exact calls_later (HCV.out _)))))
  refine wpQuiet_nil ?_
  intro _ hw'
  obtain ⟨u, hw''⟩ := hw'
  subst hw''
  have HR4 : Hid (RiW w u.at_ D d V1 V2 V3 Us) := HR3.out.later u.below
  obtain ⟨w4, hw4⟩ : ∃ w4, w4 = u.at_ := ⟨_, rfl⟩
  rw [← hw4] at HR4 ⊢
  clear hcc HCV hne hw4 r0 HR3 HR3B
  have HR4B : Hid (Below w.heap.size w w4) := HR4.out.low
  cases vc with
  | false =>
    have HF : Hid (ok = false) := HNO.out HCY.out
    go_wp2
    go_ret
    exact ⟨by rw [HF.out]; rfl, HR4B.out⟩
  | true =>
  obtain ⟨q1, q2, q3⟩ := HR4.out.db.hi
  rw [HE1.out, HSS.out] at q1
  have HCR : Hid (Calls Tryd.prog 26 #[.slice (some ⟨b1, o1, none⟩) S c1, .func (.func 27) #[] #[.pointer (some ⟨D + 2, 0, none⟩), .pointer (some ⟨D + 1, 0, none⟩)]] w4 fun e w' => e = .returned (.bool (!rowsT d)) ∧ Below w4.heap.size w4 w') := by
    have h := contains_rows (fun U => !rowOk d.C d.S (rdInts w4 U)) (.pointer (some ⟨D + 2, 0, none⟩)) (.pointer (some ⟨D + 1, 0, none⟩)) Us V1 w4 HR4.out.t.nx (fun U hU v hv => by
      obtain ⟨s, hs, e⟩ := List.getElem_of_mem hU
      have hUs : Us[s]? = some U := by rw [List.getElem?_eq_getElem hs, e]
      have hL := HR4.out.t.row s U hUs
      rw [rdInts_eq hL]
      exact right1_any d.C d.S _ _ _ U v ((HR4.out.later hv).c.cell) ((HR4.out.later hv).s.cell) (hL.later hv))
    rw [rowsT_any HR4.out.t, HE1.out, HSS.out] at h
    exact h
  have HNO2 : Hid (rowsT d = false → ok = false) := fun h => by rw [HRT.out, h, HSY.out, HCY.out]; rfl
  have HYES : Hid (rowsT d = true → ok = foundT d) := fun h => by rw [HRT.out, h, HSY.out, HCY.out]; rfl
  have HRO : Hid (∀ r ∈ d.nx, rowsT d = true → ∀ t ∈ r, 0 ≤ t ∧ t < (S : Int)) := fun r hr h t ht => by
    unfold rowsT at h
    rw [List.all_eq_true] at h
    have h2 := h r hr
    rw [Bool.and_eq_true, List.all_eq_true] at h2
    have h3 := h2.2 t ht
    rw [blw_iff, HSS.out] at h3
    exact h3
  obtain ⟨vr, hvr⟩ : ∃ vr, rowsT d = vr := ⟨_, rfl⟩
  rw [hvr] at HCR HNO2 HYES HRO
  clear hvr
  go_wp2_with fail
  refine HCR.out.mono ?_
  rintro e w5 ⟨rfl, k5⟩
  have HR5 : Hid (RiW w w5 D d V1 V2 V3 Us) := HR4.out.later k5
  have HR5B : Hid (Below w.heap.size w w5) := HR5.out.low
  clear k5 HCR HR4 HR4B q1 q2 q3 HNO
  cases vr with
  | false =>
    have HF : Hid (ok = false) := HNO2.out rfl
    go_wp2
    go_ret
    exact ⟨by rw [HF.out]; rfl, HR5B.out⟩
  | true =>
  obtain ⟨q1, q2, q3⟩ := HR5.out.db.hi
  rw [HE1.out, HSS.out] at q1
  clear HNO2
  go_wp2_with fail
  go_loopw [55] (fun i u => ∃ j : Nat, i = .int .i64 (j : Nat) ∧ j ≤ S ∧ Hid ((List.range j).all (fun s => keepsT d s (d.row s)) = true) ∧ Hid (RiW w u D d V1 V2 V3 Us)) (fun i _ => S - (intOf i).toNat)
  case atStart => exact ⟨0, rfl, Nat.zero_le _, by show _ = _; simp, HR5⟩
  case round =>
    obtain ⟨j, rfl, hjn, HAL, HR⟩ := hrel
    clear HR5 HR5B q1 q2 q3
    have HRB : Hid (Below w.heap.size w wr) := HR.out.low
    by_cases hlt : j < S
    · have hlt' : (j : Int) < (S : Int) := by omega
      obtain ⟨b1', o1', U, ha, hcU, hU⟩ := HR.out.t.rowAt (s := j) (by rw [HSS.out]; exact hlt) HE1.out
      cases ha
      have hdb := HR.out.db
      have HK : Hid (Calls Tryd.prog 28 #[.agg (dv d.cl V1 V2 V3), .int .i64 (j : Nat), U] wr fun e w' => e = .returned (.bool (keepsT d j (d.row j))) ∧ Below wr.heap.size wr w') :=
        keeps_any d d.cl V1 V2 V3 U Us j (d.row j) wr HR.out.t (by rw [HNF.out, H3.out]; exact hlt) (by rw [HNE.out, H4.out]; exact hlt) hU (fun t ht => by
          have := HRO.out (d.row j) (row_mem (by rw [HSS.out]; exact hlt)) (by trivial) t ht
          rw [HNF.out, H3.out]
          exact this)
      have HTA : Hid ((List.range (j + 1)).all (fun s => keepsT d s (d.row s)) = keepsT d j (d.row j)) := by
        show _ = _
        rw [List.range_succ, List.all_append, HAL.out]
        simp
      have HN : Hid (keepsT d j (d.row j) = false → foundT d = false) := fun h => by
        unfold foundT
        rw [List.all_eq_false]
        exact ⟨j, by rw [List.mem_range, HSS.out]; exact hlt, by rw [h]; simp⟩
      obtain ⟨vk, hvk⟩ : ∃ vk, keepsT d j (d.row j) = vk := ⟨_, rfl⟩
      rw [hvk] at HK HTA HN
      have HDB : Hid (DB wr D d.cl V1 V2 V3) := hdb
      clear hvk hU hdb
      go_wp2_with (refine wpList_load_dfa rfl (.tmp 1) rfl HDB.out rfl ?_)
      refine HK.out.mono ?_
      rintro e w6 ⟨rfl, k6⟩
      have HR6 : Hid (RiW w w6 D d V1 V2 V3 Us) := HR.out.later k6
      have HR6B : Hid (Below w.heap.size w w6) := HR6.out.low
      clear k6 HK HR HRB hcU HDB
      cases vk with
      | false =>
        have HF : Hid (ok = false) := by show _ = _; rw [HYES.out (by trivial)]; exact HN.out rfl
        go_wp2
        go_ret
        exact ⟨by rw [HF.out]; rfl, HR6B.out⟩
      | true =>
        go_wp2
        go_roundw
        case rel => exact ⟨j + 1, by go_num, by omega, HTA, HR6⟩
        case measure => simp [intOf]; omega
    · have hlt' : ¬ (j : Int) < (S : Int) := by omega
      have HF : Hid (ok = true) := by
        show _ = _
        rw [HYES.out (by trivial), ← HAL.out]
        unfold foundT
        rw [HSS.out, show S = j by omega]
      go_wp2
      go_ret
      exact ⟨by rw [HF.out]; rfl, HRB.out⟩
end Go.Proofs.YtdngileimmgdnaaDoor
