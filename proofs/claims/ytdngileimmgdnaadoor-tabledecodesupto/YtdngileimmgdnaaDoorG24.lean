/- heronref10.Right: whether a table fits. -/
import Derived.Test.YtdngileimmgdnaaDoorG23
namespace Go.Proofs.YtdngileimmgdnaaDoor
open Go Go.RowKit
attribute [local go_sem ↓] Go.wp_at_zero Go.wp_at_succ

def cellOk (d : Dt) (s : Nat) (t : Int) : Bool := blw d.S t && inn (d.f s) (d.f t.toNat)
def stOk (d : Dt) (s : Nat) : Bool := decide ((d.row s).length = d.C) && (inn (d.f s) (d.e s) && (d.row s).all (cellOk d s))
theorem right_states (d : Dt) : (rowsT d && foundT d) = (List.range d.S).all (stOk d) := by
  rw [Bool.eq_iff_iff]
  unfold rowsT foundT stOk keepsT cellOk
  simp only [Bool.and_eq_true, List.all_eq_true, List.mem_range, decide_eq_true_eq]
  constructor
  · rintro ⟨h1, h2⟩ s hs
    exact ⟨(h1 _ (row_mem hs)).1, (h2 s hs).1, fun t ht => ⟨(h1 _ (row_mem hs)).2 t ht, (h2 s hs).2 t ht⟩⟩
  · intro h
    refine ⟨fun r hr => ?_, fun s hs => ⟨(h s hs).2.1, fun t ht => ((h s hs).2.2 t ht).2⟩⟩
    obtain ⟨s, hs, rfl⟩ := mem_row hr
    exact ⟨(h s hs).1, fun t ht => ((h s hs).2.2 t ht).1⟩
theorem and_nat {x y : Nat} (hx : x < 4294967296) (hy : y < 4294967296) : bits .and .u32 (x : Int) (y : Int) = ((x &&& y : Nat) : Int) := u32_and_nat x y hx hy
structure Rr (w u : World) (D : Nat) (d : Dt) (V1 V2 V3 : Value) (Us : List Value) : Prop where
  db : DB u D d.cl V1 V2 V3
  t : DfAt u d V1 V2 V3 Us
  low : Below w.heap.size w u
theorem Rr.later {w u v : World} {D : Nat} {d : Dt} {V1 V2 V3 : Value} {Us : List Value} (h : Rr w u D d V1 V2 V3 Us) (hb : Below u.heap.size u v) : Rr w v D d V1 V2 V3 Us :=
  ⟨h.db.later hb, h.t.later hb, below_step h.low hb⟩
theorem Rr.drewN {w u : World} {D : Nat} {d : Dt} {V1 V2 V3 : Value} {Us : List Value} (h : Rr w u D d V1 V2 V3 Us) (n : Nat) : Rr w (u.drewN n) D d V1 V2 V3 Us := h.later (below_drewN (Below.refl _ _) n)
set_option maxRecDepth 20000 in
set_option maxHeartbeats 8000000 in
theorem rright_any (d : Dt) (V1 V2 V3 : Value) (Us : List Value) (w : World) (hd : DfAt w d V1 V2 V3 Us) (rc : R64 d.cl) :
    Calls Tryd.prog 29 #[.agg (dv d.cl V1 V2 V3)] w fun e w' => e = .returned (.bool (rightT d)) ∧ Below w.heap.size w w' := by
  obtain ⟨a1, c1, a2, c2, a3, c3, e1, e2, e3, l1, m1, l2, m2, l3, m3⟩ := hd.forms
  obtain ⟨w1, hw1⟩ : ∃ w1, w.alloc (.cells (dv d.cl V1 V2 V3) 26) = w1 := ⟨_, rfl⟩
  obtain ⟨D, hD⟩ : ∃ D, w.heap.size = D := ⟨_, rfl⟩
  have k1 : Below w.heap.size w w1 := by rw [← hw1]; exact (Below.refl _ _).alloc (Nat.le_refl _) _
  have d1 : DB w1 D d.cl V1 V2 V3 := by rw [← hw1, ← hD]; exact db_new w _ V1 V2 V3
  have HR1 : Hid (Rr w w1 D d V1 V2 V3 Us) := ⟨d1, hd.later k1, k1⟩
  have HKB : Hid (Below w.heap.size w w1) := k1
  obtain ⟨p1, p2, p3⟩ := d1.hi
  have HW1 : Hid (w.alloc (.cells (dv d.cl V1 V2 V3) 26) = w1) := hw1
  have HDD : Hid (w.heap.size = D) := hD
  have HRC : Hid (R64 d.cl) := rc
  rw [e1] at p1
  rw [e2] at p2
  rw [e3] at p3
  obtain ⟨S, hS⟩ : ∃ S, d.S = S := ⟨_, rfl⟩
  obtain ⟨nf, hnf⟩ : ∃ nf, d.fo.length = nf := ⟨_, rfl⟩
  obtain ⟨ne, hne⟩ : ∃ ne, d.en.length = ne := ⟨_, rfl⟩
  obtain ⟨C, hC⟩ : ∃ C, d.C = C := ⟨_, rfl⟩
  have HSZ : Hid (sizesT d = decide (1 ≤ S ∧ S ≤ 4096 ∧ nf = S ∧ ne = S)) := by show _ = _; unfold sizesT; rw [hS, hnf, hne]
  have HCT : Hid (classesT d = (decide (1 ≤ C ∧ C ≤ 256) && (List.range 256).all fun b => blw C (d.cl b))) := by show _ = _; unfold classesT; rw [hC]
  rw [hS] at p1 l1
  rw [hnf] at p2 l2
  rw [hne] at p3 l3
  have HSS : Hid (d.S = S) := hS
  have HNF : Hid (d.fo.length = nf) := hnf
  have HNE : Hid (d.en.length = ne) := hne
  have HCC : Hid (d.C = C) := hC
  have HE1 : Hid (V1 = .slice a1 d.S c1) := e1
  have HE2 : Hid (V2 = .slice a2 d.fo.length c2) := e2
  have HE3 : Hid (V3 = .slice a3 d.en.length c3) := e3
  have HRT : Hid (rightT d = (sizesT d && (classesT d && (List.range d.S).all (stOk d)))) := by show _ = _; rw [← right_states]; rfl
  obtain ⟨ok, hok⟩ : ∃ ok, rightT d = ok := ⟨_, rfl⟩
  rw [hok] at HRT ⊢
  clear hw1 hD k1 d1 hS hnf hne hC hok hd e1 e2 e3 rc
  go_enter Tryd.func29, Tryd.ntmps29
  go_upto_region 1 with fail
  rw [HW1.out, HDD.out]
  clear HW1
  have HNO : Hid (sizesT d = false → ok = false) := fun h => by rw [HRT.out, h]; rfl
  by_cases h1 : S < 1
  · have HF : Hid (ok = false) := HNO.out (by rw [HSZ.out]; simp; omega)
    go_wp2
    go_ret
    exact ⟨by rw [HF.out]; rfl, HKB.out⟩
  by_cases h2 : 4096 < S
  · have HF : Hid (ok = false) := HNO.out (by rw [HSZ.out]; simp; omega)
    go_wp2
    go_ret
    exact ⟨by rw [HF.out]; rfl, HKB.out⟩
  by_cases h3 : nf = S
  case neg =>
    have g3 : ((nf : Int) != (S : Int)) = true := by simp; omega
    have HF : Hid (ok = false) := HNO.out (by rw [HSZ.out]; simp; omega)
    go_wp2
    go_ret
    exact ⟨by rw [HF.out]; rfl, HKB.out⟩
  have g3 : ((nf : Int) != (S : Int)) = false := by simp [h3]
  by_cases h4 : ne = S
  case neg =>
    have g4 : ((ne : Int) != (S : Int)) = true := by simp; omega
    have HF : Hid (ok = false) := HNO.out (by rw [HSZ.out]; simp; omega)
    have H3 : Hid (nf = S) := h3
    clear h3
    go_wp2
    go_ret
    exact ⟨by rw [HF.out]; rfl, HKB.out⟩
  have g4 : ((ne : Int) != (S : Int)) = false := by simp [h4]
  have HSY : Hid (sizesT d = true) := by show _ = _; rw [HSZ.out]; simp; omega
  have H3 : Hid (nf = S) := h3
  have H4 : Hid (ne = S) := h4
  clear h3 h4 HNO HSZ
  have hs0 : 0 < S := by omega
  obtain ⟨b1, o1, U0, rfl, hc0, hU0⟩ := HR1.out.t.rowAt (s := 0) (by rw [HSS.out]; exact hs0) HE1.out
  obtain ⟨ua, uc, eU, lU, mU, _⟩ := hU0.intAt
  have hlen0 : (d.row 0).length = C := by rw [← HCC.out]; rfl
  rw [hlen0] at eU lU
  subst eU
  rw [Nat.add_zero] at hc0
  clear hU0 hlen0
  have HNO : Hid (classesT d = false → ok = false) := fun h => by rw [HRT.out, h, HSY.out]; rfl
  go_upto_region 5 with fail
  clear hc0 g3 g4 p2 p3
  by_cases h5 : C < 1
  · have HF : Hid (ok = false) := HNO.out (by rw [HCT.out]; simp; omega)
    go_wp2
    go_ret
    exact ⟨by rw [HF.out]; rfl, HKB.out⟩
  by_cases h6 : 256 < C
  · have HF : Hid (ok = false) := HNO.out (by rw [HCT.out]; simp; omega)
    go_wp2
    go_ret
    exact ⟨by rw [HF.out]; rfl, HKB.out⟩
  have HCY : Hid (classesT d = (List.range 256).all fun b => blw C (d.cl b)) := by show _ = _; rw [HCT.out, decide_eq_true (show 1 ≤ C ∧ C ≤ 256 by omega)]; rfl
  clear HCT
  go_wp2_with fail
  go_loop [5] (fun i => ∃ k : Nat, i = .int .i64 (k : Nat) ∧ k ≤ 256 ∧ Hid (∀ b, b < k → blw C (d.cl b) = true)) (fun i => 256 - (intOf i).toNat)
  case atStart => exact ⟨0, rfl, by omega, fun b hb => by omega⟩
  case round =>
    obtain ⟨k, rfl, hk, HAL⟩ := hrel
    by_cases hlt : k < 256
    · have hcl := HR1.out.db.lo hlt
      have hbd := HRC.out k hlt
      obtain ⟨z, hz⟩ : ∃ z : Int, d.cl k = z := ⟨_, rfl⟩
      have HZ : Hid (d.cl k = z) := hz
      rw [hz] at hcl hbd
      clear hz
      obtain ⟨hbd1, hbd2⟩ := hbd
      have HBAD : Hid (blw C z = false → ok = false) := fun h => by
        refine HNO.out ?_
        rw [HCY.out]
        cases e : (List.range 256).all fun b => blw C (d.cl b)
        · rfl
        · have := List.all_eq_true.1 e k (List.mem_range.2 hlt)
          rw [HZ.out, h] at this
          cases this
      by_cases hz0 : z < 0
      · have HF : Hid (ok = false) := HBAD.out (by unfold blw; simp; omega)
        go_wp2
        go_ret
        exact ⟨by rw [HF.out]; rfl, HKB.out⟩
      · by_cases hzC : z < (C : Int)
        · have HAL2 : Hid (∀ b, b < k + 1 → blw C (d.cl b) = true) := fun b hb => by
            by_cases e : b < k
            · exact HAL.out b e
            · obtain rfl : b = k := by omega
              rw [HZ.out]
              exact blw_iff.2 ⟨by omega, hzC⟩
          go_wp2
          go_round
          case rel => exact ⟨k + 1, by go_num, by omega, HAL2⟩
          case measure => simp [intOf]; omega
        · have HF : Hid (ok = false) := HBAD.out (by unfold blw; simp; omega)
          go_wp2
          go_ret
          exact ⟨by rw [HF.out]; rfl, HKB.out⟩
    · have hge : ¬ (k : Int) < 256 := by omega
      have HCA : Hid (classesT d = true) := by
        show _ = _
        rw [HCY.out, List.all_eq_true]
        exact fun b hb => HAL.out b (by have := List.mem_range.1 hb; omega)
      have HOK : Hid (ok = (List.range S).all (stOk d)) := by show _ = _; rw [HRT.out, HSY.out, HCA.out, HSS.out]; rfl
      clear HAL HCA HCY HNO HRT
      go_wp2_with fail
      go_loopw [6] (fun i u => ∃ s : Nat, i = .int .i64 (s : Nat) ∧ s ≤ S ∧ Hid (∀ x, x < s → stOk d x = true) ∧ Hid (Rr w u D d V1 V2 V3 Us)) (fun i _ => S - (intOf i).toNat)
      case atStart => exact ⟨0, rfl, by omega, fun x hx => by omega, HR1⟩
      case round =>
        obtain ⟨s, rfl, hsn, HAL, HR⟩ := hrel
        by_cases hlt : s < S
        · have hlt' : (s : Int) < (S : Int) := by omega
          have hsd : s < d.S := by rw [HSS.out]; exact hlt
          obtain ⟨b1', o1', U, ha, hcU, hU⟩ := HR.out.t.rowAt (s := s) hsd HE1.out
          cases ha
          obtain ⟨va, vc, rfl, lV, mV, hat⟩ := hU.intAt
          obtain ⟨b2, o2, rfl, hcf, hf32⟩ := HR.out.t.foAt (s := s) (by rw [HNF.out, H3.out]; exact hlt) HE2.out
          obtain ⟨b3, o3, rfl, hce, he32⟩ := HR.out.t.enAt (s := s) (by rw [HNE.out, H4.out]; exact hlt) HE3.out
          obtain ⟨q1, q2, q3⟩ := HR.out.db.hi
          rw [HE1.out, HSS.out] at q1
          rw [HE2.out, HNF.out, H3.out] at q2
          rw [HE3.out, HNE.out, H4.out] at q3
          have l2' : S ≤ c2 := by have := H3.out; omega
          have l3' : S ≤ c3 := by have := H4.out; omega
          obtain ⟨L, hL⟩ : ∃ L, (d.row s).length = L := ⟨_, rfl⟩
          obtain ⟨F, hF⟩ : ∃ F, d.f s = F := ⟨_, rfl⟩
          obtain ⟨E, hE⟩ : ∃ E, d.e s = E := ⟨_, rfl⟩
          have HL : Hid ((d.row s).length = L) := hL
          have HFF : Hid (d.f s = F) := hF
          have HEE : Hid (d.e s = E) := hE
          rw [hL] at lV hcU
          rw [hF] at hcf hf32
          rw [hE] at hce he32
          have hand := and_nat hf32 he32
          obtain ⟨G, hG⟩ : ∃ G, F &&& E = G := ⟨_, rfl⟩
          rw [hG] at hand
          have HAT : Hid (∀ k, k < L → ∃ b off, va = some ⟨b, off, none⟩ ∧ wr.cell? ⟨b, off + k, none⟩ = some (.int .i64 ((d.row s).getD k 0))) := by rw [hL] at hat; exact hat
          have HBAD : Hid (stOk d s = false → ok = false) := fun h => by
            rw [HOK.out]
            cases e : (List.range S).all (stOk d)
            · rfl
            · have := List.all_eq_true.1 e s (List.mem_range.2 hlt)
              rw [h] at this
              cases this
          have HST : Hid (stOk d s = (decide (L = C) && ((G == F) && (d.row s).all (cellOk d s)))) := by
            show _ = _
            unfold stOk inn
            rw [HL.out, HFF.out, HEE.out, hG, HCC.out]
          clear hL hF hE hG hat hU
          by_cases hLC : L = C
          case neg =>
            have hlc : ((L : Int) != (C : Int)) = true := by simp; omega
            have HF : Hid (ok = false) := HBAD.out (by rw [HST.out, decide_eq_false hLC]; rfl)
            clear hLC
            go_upto_region 15 with fail
            go_quiet (fail)
            have HBE : Hid (Below w.heap.size w (wr.drewN nq)) := below_drewN HR.out.low _
            go_wp2
            go_ret
            exact ⟨by rw [HF.out]; rfl, HBE.out⟩
          have hlc : ((L : Int) != (C : Int)) = false := by simp [hLC]
          have HLC : Hid (L = C) := hLC
          clear hLC
          by_cases hGF : G = F
          case neg =>
            have hgf : ((G : Int) != (F : Int)) = true := by simp; omega
            have HF : Hid (ok = false) := HBAD.out (by rw [HST.out, show (G == F) = false by simp [hGF]]; simp)
            clear hGF
            go_upto_region 15 with fail
            go_quiet (fail)
            have HBE : Hid (Below w.heap.size w (wr.drewN nq)) := below_drewN HR.out.low _
            go_wp2
            go_ret
            exact ⟨by rw [HF.out]; rfl, HBE.out⟩
          have hgf : ((G : Int) != (F : Int)) = false := by simp [hGF]
          have HST2 : Hid (stOk d s = (d.row s).all (cellOk d s)) := by show _ = _; rw [HST.out, HLC.out, hGF]; simp
          clear hGF HST
          go_upto_region 15 with fail
          go_quiet (fail)
          have HR2 : Hid (Rr w (wr.drewN nq) D d V1 V2 V3 Us) := HR.out.drewN nq
          have HAT2 : Hid (∀ k, k < L → ∃ b off, va = some ⟨b, off, none⟩ ∧ (wr.drewN nq).cell? ⟨b, off + k, none⟩ = some (.int .i64 ((d.row s).getD k 0))) := HAT.out
          have HCU2 : Hid ((wr.drewN nq).cell? ⟨b1, o1 + s, none⟩ = some (.slice va L vc)) := hcU
          obtain ⟨w2, hw2⟩ : ∃ w2, wr.drewN nq = w2 := ⟨_, rfl⟩
          rw [hw2] at HR2 HAT2 HCU2 ⊢
          clear hw2 HR HAT hcU hcf hce q1 q2 q3 hand hlc hgf
          have hlL : L = C := HLC.out
          rw [hlL] at HCU2 HAT2 lV
          clear hlL
          have hC0 : (0 : Int) < (C : Int) := by omega
          go_wp2_with fail
          go_loopw [7, 8] (fun i t u => ∃ c : Nat, i = .int .i64 (c : Nat) ∧ c ≤ C ∧ Hid (∀ x, x < c → cellOk d s ((d.row s).getD x 0) = true) ∧ Hid (Below w2.heap.size w2 u)) (fun i _ _ => C - (intOf i).toNat)
          case atStart => exact ⟨0, rfl, by omega, fun x hx => by omega, Below.refl _ _⟩
          case round =>
            obtain ⟨c, rfl, hcn, HCO, HBW⟩ := hrel
            have HR3 : Hid (Rr w wr D d V1 V2 V3 Us) := HR2.out.later HBW.out
            by_cases hltc : c < C
            · have hltc' : (c : Int) < (C : Int) := by omega
              obtain ⟨b4, o4, rfl, hc4⟩ := HAT2.out c hltc
              have hcZ := cell_later HBW.out _ _ _ hc4
              have hcU := cell_later HBW.out _ _ _ HCU2.out
              obtain ⟨q1, q2, q3⟩ := HR3.out.db.hi
              rw [HE1.out, HSS.out] at q1
              rw [HE2.out, HNF.out, H3.out] at q2
              obtain ⟨z, hz⟩ : ∃ z : Int, (d.row s).getD c 0 = z := ⟨_, rfl⟩
              have HZ : Hid ((d.row s).getD c 0 = z) := hz
              rw [hz] at hcZ
              clear hz hc4 q3
              have HRL : Hid ((d.row s).length = C) := HL.out.trans HLC.out
              have HBAD2 : Hid (cellOk d s z = false → ok = false) := fun h => HBAD.out (by
                rw [HST2.out]
                cases e : (d.row s).all (cellOk d s)
                · rfl
                · have := List.all_eq_true.1 e ((d.row s).getD c 0) (by rw [List.getD_eq_getElem?_getD, List.getElem?_eq_getElem (by rw [HRL.out]; exact hltc)]; exact List.getElem_mem _)
                  rw [HZ.out, h] at this
                  cases this)
              obtain ⟨b5, o5, e5, hcf, hf32b⟩ := HR3.out.t.foAt (s := s) (by rw [HNF.out, H3.out]; exact hlt) HE2.out
              cases e5
              rw [HFF.out] at hcf
              by_cases hz0 : z < 0
              · have HF : Hid (ok = false) := HBAD2.out (by unfold cellOk blw; simp; omega)
                have hd0 : decide (z < 0) = true := decide_eq_true hz0
                go_upto_region 21 with fail
                go_quiet (fail)
                have HBE : Hid (Below w.heap.size w (wr.drewN nq)) := below_drewN HR3.out.low _
                go_wp2
                go_ret
                exact ⟨by rw [HF.out]; rfl, HBE.out⟩
              · have hd0 : decide (z < 0) = false := decide_eq_false hz0
                obtain ⟨zn, rfl⟩ : ∃ zn : Nat, z = (zn : Int) := ⟨z.toNat, by omega⟩
                by_cases hzS : (S : Int) ≤ (zn : Int)
                · have HF : Hid (ok = false) := HBAD2.out (by unfold cellOk blw; rw [HSS.out]; simp; omega)
                  have hd1 : decide ((S : Int) ≤ (zn : Int)) = true := decide_eq_true hzS
                  go_upto_region 21 with fail
                  go_quiet (fail)
                  have HBE : Hid (Below w.heap.size w (wr.drewN nq)) := below_drewN HR3.out.low _
                  go_wp2
                  go_ret
                  exact ⟨by rw [HF.out]; rfl, HBE.out⟩
                · have hd1 : decide ((S : Int) ≤ (zn : Int)) = false := decide_eq_false hzS
                  have hzn : zn < S := by omega
                  have hzn' : (zn : Int) < (S : Int) := by omega
                  obtain ⟨b6, o6, e6, hcg, hg32⟩ := HR3.out.t.foAt (s := zn) (by rw [HNF.out, H3.out]; exact hzn) HE2.out
                  cases e6
                  obtain ⟨F2, hF2⟩ : ∃ F2, d.f zn = F2 := ⟨_, rfl⟩
                  have HF2 : Hid (d.f zn = F2) := hF2
                  rw [hF2] at hcg hg32
                  have hand := and_nat hf32 hg32
                  obtain ⟨G2, hG2⟩ : ∃ G2, F &&& F2 = G2 := ⟨_, rfl⟩
                  rw [hG2] at hand
                  have HCE : Hid (cellOk d s (zn : Int) = (G2 == F)) := by
                    show _ = _
                    unfold cellOk inn
                    rw [Int.toNat_natCast, HFF.out, HF2.out, hG2, show blw d.S (zn : Int) = true from blw_iff.2 ⟨by omega, by rw [HSS.out]; omega⟩]
                    rfl
                  clear hF2 hG2
                  by_cases hGF : G2 = F
                  · have hgf : ((G2 : Int) != (F : Int)) = false := by simp [hGF]
                    have HCO2 : Hid (∀ x, x < c + 1 → cellOk d s ((d.row s).getD x 0) = true) := fun x hx => by
                      by_cases e : x < c
                      · exact HCO.out x e
                      · obtain rfl : x = c := by omega
                        rw [HZ.out, HCE.out]
                        simp [hGF]
                    clear hGF
                    go_upto_region 21 with fail
                    go_quiet (fail)
                    have HBE : Hid (Below w2.heap.size w2 (wr.drewN nq)) := below_drewN HBW.out _
                    go_wp2
                    go_roundw
                    case rel => exact ⟨c + 1, by go_num, by omega, HCO2, HBE⟩
                    case measure => simp [intOf]; omega
                  · have hgf : ((G2 : Int) != (F : Int)) = true := by simp; omega
                    have HF : Hid (ok = false) := HBAD2.out (by rw [HCE.out]; simp [hGF])
                    clear hGF
                    go_upto_region 21 with fail
                    go_quiet (fail)
                    have HBE : Hid (Below w.heap.size w (wr.drewN nq)) := below_drewN HR3.out.low _
                    go_wp2
                    go_ret
                    exact ⟨by rw [HF.out]; rfl, HBE.out⟩
            · have hltc' : ¬ (c : Int) < (C : Int) := by omega
              have HAL2 : Hid (∀ x, x < s + 1 → stOk d x = true) := fun x hx => by
                by_cases e : x < s
                · exact HAL.out x e
                · obtain rfl : x = s := by omega
                  rw [HST2.out, List.all_eq_true]
                  intro t ht
                  obtain ⟨j, hj, rfl⟩ := List.getElem_of_mem ht
                  have hjc : j < c := by have h1 := HL.out; have h2 := HLC.out; omega
                  have := HCO.out j hjc
                  rwa [List.getD_eq_getElem?_getD, List.getElem?_eq_getElem hj] at this
              go_wp2
              go_roundw
              case rel => exact ⟨s + 1, by go_num, by omega, HAL2, HR3⟩
              case measure => simp [intOf]; omega
        · have hlt' : ¬ (s : Int) < (S : Int) := by omega
          have HF : Hid (ok = true) := by
            show _ = _
            rw [HOK.out, List.all_eq_true]
            exact fun x hx => HAL.out x (by have := List.mem_range.1 hx; omega)
          have HBE : Hid (Below w.heap.size w wr) := HR.out.low
          go_wp2
          go_ret
          exact ⟨by rw [HF.out]; rfl, HBE.out⟩
end Go.Proofs.YtdngileimmgdnaaDoor
