/- heronlaw12.same -/
import Derived.Test.YtdngileimmgdnaaDoorG18
namespace Go.Proofs.YtdngileimmgdnaaDoor
open Go.RowKit
attribute [local go_sem ↓] Go.wp_at_zero Go.wp_at_succ

set_option maxRecDepth 20000 in
set_option maxHeartbeats 16000000 in
theorem lsame_any (a b : Dt) (A1 A2 A3 B1 B2 B3 : Value) (As Bs : List Value) (w : World) (ha : DfAt w a A1 A2 A3 As) (hb : DfAt w b B1 B2 B3 Bs) (ra : R64 a.cl) (rb : R64 b.cl) :
    Calls Tryd.prog 13 #[.agg (dv a.cl A1 A2 A3), .agg (dv b.cl B1 B2 B3)] w fun e w' => e = .returned (.bool (sameT a b)) ∧ Below w.heap.size w w' := by
  obtain ⟨a1, c1, a2, c2, a3, c3, e1, e2, e3, l1, m1, l2, m2, l3, m3⟩ := ha.forms
  obtain ⟨b1, d1, b2, d2, b3, d3, f1, f2, f3, k1, n1, k2, n2, k3, n3⟩ := hb.forms
  obtain ⟨w1, hw1⟩ : ∃ w1, w.alloc (.cells (dv a.cl A1 A2 A3) 26) = w1 := ⟨_, rfl⟩
  obtain ⟨w2, hw2⟩ : ∃ w2, w1.alloc (.cells (dv b.cl B1 B2 B3) 26) = w2 := ⟨_, rfl⟩
  obtain ⟨D, hD⟩ : ∃ D, w.heap.size = D := ⟨_, rfl⟩
  have z1 : w1.heap.size = D + 1 := by rw [← hw1, ← hD]; simp
  have kk1 : Below w.heap.size w w1 := by rw [← hw1]; exact (Below.refl _ _).alloc (Nat.le_refl _) _
  have kk2 : Below w1.heap.size w1 w2 := by rw [← hw2]; exact (Below.refl _ _).alloc (Nat.le_refl _) _
  have dd1 : DB w1 D a.cl A1 A2 A3 := by rw [← hw1, ← hD]; exact db_new w _ _ _ _
  have dd2 : DB w2 (D + 1) b.cl B1 B2 B3 := by rw [← hw2, ← z1]; exact db_new w1 _ _ _ _
  have HS : Hid (Sx w w2 D a b A1 A2 A3 B1 B2 B3 As Bs) := ⟨dd1.later kk2, dd2, (ha.later kk1).later kk2, (hb.later kk1).later kk2, below_step kk1 kk2⟩
  have HW : Hid ((w.alloc (.cells (dv a.cl A1 A2 A3) 26)).alloc (.cells (dv b.cl B1 B2 B3) 26) = w2) := by rw [hw1]; exact hw2
  have HDD : Hid (w.heap.size = D) := hD
  have HE1 : Hid (A1 = .slice a1 a.S c1) := e1
  have HE2 : Hid (A2 = .slice a2 a.fo.length c2) := e2
  have HE3 : Hid (A3 = .slice a3 a.en.length c3) := e3
  have HF1 : Hid (B1 = .slice b1 b.S d1) := f1
  have HF2 : Hid (B2 = .slice b2 b.fo.length d2) := f2
  have HF3 : Hid (B3 = .slice b3 b.en.length d3) := f3
  obtain ⟨ok, hok⟩ : ∃ ok, sameT a b = ok := ⟨_, rfl⟩
  have HOK : Hid (sameT a b = ok) := hok
  rw [hok]
  obtain ⟨S, hS⟩ : ∃ S, a.S = S := ⟨_, rfl⟩
  obtain ⟨S', hS'⟩ : ∃ S', b.S = S' := ⟨_, rfl⟩
  obtain ⟨F, hFF⟩ : ∃ F, a.fo.length = F := ⟨_, rfl⟩
  obtain ⟨F', hFF'⟩ : ∃ F', b.fo.length = F' := ⟨_, rfl⟩
  obtain ⟨E, hEE⟩ : ∃ E, a.en.length = E := ⟨_, rfl⟩
  obtain ⟨E', hEE'⟩ : ∃ E', b.en.length = E' := ⟨_, rfl⟩
  have HSA : Hid (a.S = S ∧ a.fo.length = F ∧ a.en.length = E) := ⟨hS, hFF, hEE⟩
  have HSB : Hid (b.S = S' ∧ b.fo.length = F' ∧ b.en.length = E') := ⟨hS', hFF', hEE'⟩
  have HCB : Hid (∀ u, (Op.equalIn 10000 22 (.agg (cv a.cl)) (.agg (cv b.cl))).run Tryd.prog u = .ok (clB a.cl b.cl) u) := fun u => eqArr a.cl b.cl ra rb u
  rw [hS] at l1
  rw [hS'] at k1
  rw [hFF] at l2
  rw [hFF'] at k2
  rw [hEE] at l3
  rw [hEE'] at k3
  have HLO : Hid (∀ i, i < 256 → w2.cell? ⟨D, 0 + i, none⟩ = some (.int .i64 (a.cl i))) := fun i hi => by rw [Nat.zero_add]; exact HS.out.da.lo hi
  have HLP : Hid (∀ i, i < 256 → w2.cell? ⟨D + 1, 0 + i, none⟩ = some (.int .i64 (b.cl i))) := fun i hi => by rw [Nat.zero_add]; exact HS.out.db.lo hi
  obtain ⟨q1, q2, q3⟩ := HS.out.da.hi
  obtain ⟨r1, r2, r3⟩ := HS.out.db.hi
  rw [e1, hS] at q1
  rw [e2, hFF] at q2
  rw [e3, hEE] at q3
  rw [f1, hS'] at r1
  rw [f2, hFF'] at r2
  rw [f3, hEE'] at r3
  have HSL : Hid (Below w.heap.size w w2) := HS.out.low
  clear hw1 hw2 hD z1 kk1 kk2 dd1 dd2 e1 e2 e3 f1 f2 f3 hok hS hS' hFF hFF' hEE hEE' ha hb ra rb
  obtain ⟨eqc, hec⟩ : ∃ eqc, clB a.cl b.cl = eqc := ⟨_, rfl⟩
  have HEC : Hid (clB a.cl b.cl = eqc) := hec
  rw [hec] at HCB
  clear hec
  have hcb := HCB.out
  go_enter Tryd.func13, Tryd.ntmps13
  go_upto_region 1 with fail
  rw [HW.out, HDD.out]
  clear HW
  cases eqc with
  | false =>
    have HF : Hid (ok = false) := by show _ = _; rw [← HOK.out]; exact sameT_cl HEC.out
    go_wp2_with fail
    refine wp_load_cls (.tmp 9) rfl HLO.out rfl ?_
    go_wp2_with fail
    refine wp_load_cls (.tmp 11) rfl HLP.out rfl ?_
    go_wp2_with fail
    go_ret
    exact ⟨by rw [HF.out]; rfl, HSL.out⟩
  | true =>
  by_cases h1 : S = S'
  case neg =>
    have g1 : ((S : Int) != (S' : Int)) = true := by simp; omega
    have HF : Hid (ok = false) := by show _ = _; rw [← HOK.out]; exact sameT_no (fun e => h1 (by rw [← HSA.out.1, ← HSB.out.1]; unfold Dt.S; rw [e.1]))
    go_wp2_with fail
    refine wp_load_cls (.tmp 9) rfl HLO.out rfl ?_
    go_wp2_with fail
    refine wp_load_cls (.tmp 11) rfl HLP.out rfl ?_
    go_wp2_with fail
    go_ret
    exact ⟨by rw [HF.out]; rfl, HSL.out⟩
  have g1 : ((S : Int) != (S' : Int)) = false := by simp [h1]
  by_cases h2 : F = F'
  case neg =>
    have g2 : ((F : Int) != (F' : Int)) = true := by simp; omega
    have HF : Hid (ok = false) := by show _ = _; rw [← HOK.out]; exact sameT_no (fun e => h2 (by rw [← HSA.out.2.1, ← HSB.out.2.1, e.2.1]))
    have H1 : Hid (S = S') := h1
    clear h1
    go_wp2_with fail
    refine wp_load_cls (.tmp 9) rfl HLO.out rfl ?_
    go_wp2_with fail
    refine wp_load_cls (.tmp 11) rfl HLP.out rfl ?_
    go_wp2_with fail
    go_ret
    exact ⟨by rw [HF.out]; rfl, HSL.out⟩
  have g2 : ((F : Int) != (F' : Int)) = false := by simp [h2]
  by_cases h3 : E = E'
  case neg =>
    have g3 : ((E : Int) != (E' : Int)) = true := by simp; omega
    have HF : Hid (ok = false) := by show _ = _; rw [← HOK.out]; exact sameT_no (fun e => h3 (by rw [← HSA.out.2.2, ← HSB.out.2.2, e.2.2]))
    have H1 : Hid (S = S') := h1
    have H2 : Hid (F = F') := h2
    clear h1 h2
    go_wp2_with fail
    refine wp_load_cls (.tmp 9) rfl HLO.out rfl ?_
    go_wp2_with fail
    refine wp_load_cls (.tmp 11) rfl HLP.out rfl ?_
    go_wp2_with fail
    go_ret
    exact ⟨by rw [HF.out]; rfl, HSL.out⟩
  have g3 : ((E : Int) != (E' : Int)) = false := by simp [h3]
  have H1 : Hid (S = S') := h1
  have H2 : Hid (F = F') := h2
  have H3 : Hid (E = E') := h3
  clear h1 h2 h3
  go_wp2_with fail
  refine wp_load_cls (.tmp 9) rfl HLO.out rfl ?_
  go_wp2_with fail
  refine wp_load_cls (.tmp 11) rfl HLP.out rfl ?_
  go_wp2_with fail
  go_loopw [44] (fun i u => ∃ s : Nat, i = .int .i64 (s : Nat) ∧ s ≤ S ∧ Hid (∀ t, t < s → a.row t = b.row t) ∧ Hid (Sx w u D a b A1 A2 A3 B1 B2 B3 As Bs)) (fun i _ => S - (intOf i).toNat)
  case atStart => exact ⟨0, rfl, Nat.zero_le _, fun t ht => by omega, HS⟩
  case round =>
    obtain ⟨s, rfl, hsn, HRE, HX⟩ := hrel
    clear q1 q2 q3 r1 r2 r3 HLO HLP HSL HS
    obtain ⟨q1, q2, q3⟩ := HX.out.da.hi
    obtain ⟨r1, r2, r3⟩ := HX.out.db.hi
    rw [HE1.out, HSA.out.1] at q1
    rw [HF1.out, HSB.out.1] at r1
    rw [HE2.out, HSA.out.2.1] at q2
    rw [HF2.out, HSB.out.2.1] at r2
    rw [HE3.out, HSA.out.2.2] at q3
    rw [HF3.out, HSB.out.2.2] at r3
    by_cases hlt : s < S
    · have hlt' : (s : Int) < (S : Int) := by omega
      have hlt2 : s < S' := by have := H1.out; omega
      obtain ⟨p1, o1, U, ha1, hcU, hU⟩ := HX.out.ta.rowAt (s := s) (by rw [HSA.out.1]; exact hlt) HE1.out
      obtain ⟨p2, o2, V, hb1, hcV, hV⟩ := HX.out.tb.rowAt (s := s) (by rw [HSB.out.1]; exact hlt2) HF1.out
      subst ha1 hb1
      obtain ⟨ua, uc, rfl, lU, mU, hatU⟩ := hU.intAt
      obtain ⟨va, vc, rfl, lV, mV, hatV⟩ := hV.intAt
      obtain ⟨n, hn⟩ : ∃ n, (a.row s).length = n := ⟨_, rfl⟩
      obtain ⟨m, hm⟩ : ∃ m, (b.row s).length = m := ⟨_, rfl⟩
      have HNN : Hid ((a.row s).length = n) := hn
      have HMM : Hid ((b.row s).length = m) := hm
      have HAU : Hid (∀ k, k < n → ∃ b off, ua = some ⟨b, off, none⟩ ∧ wr.cell? ⟨b, off + k, none⟩ = some (.int .i64 ((a.row s).getD k 0))) := by rw [hn] at hatU; exact hatU
      have HAV : Hid (∀ k, k < m → ∃ b' off, va = some ⟨b', off, none⟩ ∧ wr.cell? ⟨b', off + k, none⟩ = some (.int .i64 ((b.row s).getD k 0))) := by rw [hm] at hatV; exact hatV
      rw [hn] at hcU lU
      rw [hm] at hcV lV
      clear hn hm hatU hatV hU hV
      by_cases hnm : n = m
      case neg =>
        have g4 : ((n : Int) != (m : Int)) = true := by simp; omega
        have HF : Hid (ok = false) := by show _ = _; rw [← HOK.out]; exact row_ne (s := s) (fun e => hnm (by rw [← HNN.out, ← HMM.out, e]))
        have HB' : Hid (Sx w wr D a b A1 A2 A3 B1 B2 B3 As Bs) := HX
        go_wp2_with fail
        go_quiet (fail)
        have HBE : Hid (Below w.heap.size w (wr.drewN nq)) := (HB'.out.drew nq).low
        go_wp2
        go_ret
        exact ⟨by rw [HF.out]; rfl, HBE.out⟩
      have g4 : ((n : Int) != (m : Int)) = false := by simp [hnm]
      have HNM : Hid (n = m) := hnm
      clear hnm
      go_wp2_with fail
      go_quiet (fail)
      have HX2 : Hid (Sx w (wr.drewN nq) D a b A1 A2 A3 B1 B2 B3 As Bs) := HX.out.drew nq
      obtain ⟨wq, hwq⟩ : ∃ wq, wr.drewN nq = wq := ⟨_, rfl⟩
      have hk : ∀ bb oo v, wr.cell? ⟨bb, oo, none⟩ = some v → wq.cell? ⟨bb, oo, none⟩ = some v := by rw [← hwq]; exact cell_later (below_drewN (Below.refl _ _) nq)
      have HAU2 : Hid (∀ k, k < n → ∃ b off, ua = some ⟨b, off, none⟩ ∧ wq.cell? ⟨b, off + k, none⟩ = some (.int .i64 ((a.row s).getD k 0))) := fun k hk2 => by obtain ⟨b', off, e, h⟩ := HAU.out k hk2; exact ⟨b', off, e, hk _ _ _ h⟩
      have HAV2 : Hid (∀ k, k < m → ∃ b' off, va = some ⟨b', off, none⟩ ∧ wq.cell? ⟨b', off + k, none⟩ = some (.int .i64 ((b.row s).getD k 0))) := fun k hk2 => by obtain ⟨b', off, e, h⟩ := HAV.out k hk2; exact ⟨b', off, e, hk _ _ _ h⟩
      have hcU2 := hk _ _ _ hcU
      have hcV2 := hk _ _ _ hcV
      have q12 := hk _ _ _ q1
      have r12 := hk _ _ _ r1
      rw [hwq] at HX2 ⊢
      have HCU : Hid (wq.cell? ⟨p1, o1 + s, none⟩ = some (.slice ua n uc) ∧ wq.cell? ⟨p2, o2 + s, none⟩ = some (.slice va m vc) ∧ wq.cell? ⟨D, 256, none⟩ = some (.slice (some ⟨p1, o1, none⟩) S c1) ∧ wq.cell? ⟨D + 1, 256, none⟩ = some (.slice (some ⟨p2, o2, none⟩) S' d1)) := ⟨hcU2, hcV2, q12, r12⟩
      clear hwq hk HX HAU HAV hcU hcV q1 q2 q3 r1 r2 r3
      go_wp2_with fail
      go_loopw [66] (fun i u => ∃ c : Nat, i = .int .i64 (c : Nat) ∧ c ≤ n ∧ Hid (∀ t, t < c → (a.row s).getD t 0 = (b.row s).getD t 0) ∧ Hid (Below wq.heap.size wq u)) (fun i _ => n - (intOf i).toNat)
      case atStart => exact ⟨0, rfl, Nat.zero_le _, fun t ht => by omega, Below.refl _ _⟩
      case round =>
        obtain ⟨c, rfl, hcn, HCE, HBQ⟩ := hrel
        clear hcU2 hcV2 q12 r12
        have kq := cell_later HBQ.out
        have hcU3 := kq _ _ _ HCU.out.1
        have hcV3 := kq _ _ _ HCU.out.2.1
        have q13 := kq _ _ _ HCU.out.2.2.1
        have r13 := kq _ _ _ HCU.out.2.2.2
        have HXR : Hid (Sx w wr D a b A1 A2 A3 B1 B2 B3 As Bs) := HX2.out.later HBQ.out
        by_cases hltc : c < n
        · have hltc' : (c : Int) < (n : Int) := by omega
          have hltm : c < m := by have := HNM.out; omega
          obtain ⟨x1, y1, rfl, hx1⟩ := HAU2.out c hltc
          obtain ⟨x2, y2, rfl, hx2⟩ := HAV2.out c hltm
          have hx1' := kq _ _ _ hx1
          have hx2' := kq _ _ _ hx2
          obtain ⟨v1, hv1⟩ : ∃ v, (a.row s).getD c 0 = v := ⟨_, rfl⟩
          obtain ⟨v2, hv2⟩ : ∃ v, (b.row s).getD c 0 = v := ⟨_, rfl⟩
          rw [hv1] at hx1'
          rw [hv2] at hx2'
          have HV : Hid ((a.row s).getD c 0 = v1 ∧ (b.row s).getD c 0 = v2) := ⟨hv1, hv2⟩
          clear hv1 hv2 kq hx1 hx2
          by_cases hvv : v1 = v2
          · have g5 : (v1 != v2) = false := by simp [hvv]
            have HCE2 : Hid (∀ t, t < c + 1 → (a.row s).getD t 0 = (b.row s).getD t 0) := fun t ht => by
              by_cases e : t = c
              · rw [e, HV.out.1, HV.out.2, hvv]
              · exact HCE.out t (by omega)
            clear hvv HV
            go_wp2_with fail
            go_quiet (fail)
            have HBE : Hid (Below wq.heap.size wq (wr.drewN nq)) := below_drewN HBQ.out _
            clear HBQ HXR
            go_wp2
            go_roundw
            case rel => exact ⟨c + 1, by go_num, by omega, HCE2, HBE⟩
            case measure => simp [intOf]; omega
          · have g5 : (v1 != v2) = true := by simp [hvv]
            have HF : Hid (ok = false) := by show _ = _; rw [← HOK.out]; exact row_ne (s := s) (fun e => hvv (by rw [← HV.out.1, ← HV.out.2, e]))
            go_wp2_with fail
            go_quiet (fail)
            have HBE : Hid (Below w.heap.size w (wr.drewN nq)) := (HXR.out.drew nq).low
            go_wp2
            go_ret
            exact ⟨by rw [HF.out]; rfl, HBE.out⟩
        · have hltc' : ¬ (c : Int) < (n : Int) := by omega
          have HRE2 : Hid (∀ t, t < s + 1 → a.row t = b.row t) := fun t ht => by
            by_cases e : t = s
            · subst e
              refine list_eq 0 (by rw [HNN.out, HMM.out, HNM.out]) (fun k hk2 => HCE.out k (by rw [HNN.out] at hk2; omega))
            · exact HRE.out t (by omega)
          clear kq
          go_wp2
          go_roundw
          case rel => exact ⟨s + 1, by go_num, by omega, HRE2, HXR⟩
          case measure => simp [intOf]; omega
    · have hlt' : ¬ (s : Int) < (S : Int) := by omega
      have HNX : Hid (a.nx = b.nx) := rows_eq (by rw [HSA.out.1, HSB.out.1, H1.out]) (fun t ht => HRE.out t (by rw [HSA.out.1] at ht; omega))
      go_wp2_with fail
      go_loopw [91] (fun i u => ∃ s : Nat, i = .int .i64 (s : Nat) ∧ s ≤ F ∧ Hid (∀ t, t < s → a.f t = b.f t) ∧ Hid (Sx w u D a b A1 A2 A3 B1 B2 B3 As Bs)) (fun i _ => F - (intOf i).toNat)
      case atStart => exact ⟨0, rfl, Nat.zero_le _, fun t ht => by omega, HX⟩
      case round =>
        clear q1 q2 q3 r1 r2 r3 HRE HX
        obtain ⟨s2, rfl, hsn2, HRE, HX⟩ := hrel
        obtain ⟨q1, q2, q3⟩ := HX.out.da.hi
        obtain ⟨r1, r2, r3⟩ := HX.out.db.hi
        rw [HE2.out, HSA.out.2.1] at q2
        rw [HF2.out, HSB.out.2.1] at r2
        rw [HE3.out, HSA.out.2.2] at q3
        rw [HF3.out, HSB.out.2.2] at r3
        clear q1 r1
        by_cases hlt2 : s2 < F
        · have hlt2' : (s2 : Int) < (F : Int) := by omega
          have hlt3 : s2 < F' := by have := H2.out; omega
          obtain ⟨p1, o1, ha2, hcA, l32⟩ := HX.out.ta.foAt (s := s2) (by rw [HSA.out.2.1]; exact hlt2) HE2.out
          obtain ⟨p2, o2, hb2, hcB, m32⟩ := HX.out.tb.foAt (s := s2) (by rw [HSB.out.2.1]; exact hlt3) HF2.out
          subst ha2 hb2
          obtain ⟨v1, hv1⟩ : ∃ v, a.f s2 = v := ⟨_, rfl⟩
          obtain ⟨v2, hv2⟩ : ∃ v, b.f s2 = v := ⟨_, rfl⟩
          rw [hv1] at hcA
          rw [hv2] at hcB
          have HV : Hid (a.f s2 = v1 ∧ b.f s2 = v2) := ⟨hv1, hv2⟩
          clear hv1 hv2 l32 m32
          by_cases hvv : v1 = v2
          · have g5 : ((v1 : Int) != (v2 : Int)) = false := by simp [hvv]
            have HRE2 : Hid (∀ t, t < s2 + 1 → a.f t = b.f t) := fun t ht => by
              by_cases e : t = s2
              · rw [e, HV.out.1, HV.out.2, hvv]
              · exact HRE.out t (by omega)
            clear hvv HV
            go_wp2_with fail
            go_quiet (fail)
            have HXE : Hid (Sx w (wr.drewN nq) D a b A1 A2 A3 B1 B2 B3 As Bs) := HX.out.drew nq
            clear HX
            go_wp2
            go_roundw
            case rel => exact ⟨s2 + 1, by go_num, by omega, HRE2, HXE⟩
            case measure => simp [intOf]; omega
          · have g5 : ((v1 : Int) != (v2 : Int)) = true := by simp; omega
            have HF : Hid (ok = false) := by show _ = _; rw [← HOK.out]; exact sameT_no (fun e => hvv (by rw [← HV.out.1, ← HV.out.2]; unfold Dt.f; rw [e.2.1]))
            go_wp2_with fail
            go_quiet (fail)
            have HBE : Hid (Below w.heap.size w (wr.drewN nq)) := (HX.out.drew nq).low
            go_wp2
            go_ret
            exact ⟨by rw [HF.out]; rfl, HBE.out⟩
        · have hlt2' : ¬ (s2 : Int) < (F : Int) := by omega
          have HFO : Hid (a.fo = b.fo) := list_eq 0 (by rw [HSA.out.2.1, HSB.out.2.1, H2.out]) (fun t ht => HRE.out t (by rw [HSA.out.2.1] at ht; omega))
          go_wp2_with fail
          go_loopw [109] (fun i u => ∃ s : Nat, i = .int .i64 (s : Nat) ∧ s ≤ E ∧ Hid (∀ t, t < s → a.e t = b.e t) ∧ Hid (Sx w u D a b A1 A2 A3 B1 B2 B3 As Bs)) (fun i _ => E - (intOf i).toNat)
          case atStart => exact ⟨0, rfl, Nat.zero_le _, fun t ht => by omega, HX⟩
          case round =>
            clear q2 q3 r2 r3 HRE HX
            obtain ⟨s3, rfl, hsn3, HRE, HX⟩ := hrel
            obtain ⟨q1, q2, q3⟩ := HX.out.da.hi
            obtain ⟨r1, r2, r3⟩ := HX.out.db.hi
            rw [HE3.out, HSA.out.2.2] at q3
            rw [HF3.out, HSB.out.2.2] at r3
            clear q1 r1 q2 r2
            by_cases hlt3 : s3 < E
            · have hlt3' : (s3 : Int) < (E : Int) := by omega
              have hlt4 : s3 < E' := by have := H3.out; omega
              obtain ⟨p1, o1, ha2, hcA, l32⟩ := HX.out.ta.enAt (s := s3) (by rw [HSA.out.2.2]; exact hlt3) HE3.out
              obtain ⟨p2, o2, hb2, hcB, m32⟩ := HX.out.tb.enAt (s := s3) (by rw [HSB.out.2.2]; exact hlt4) HF3.out
              subst ha2 hb2
              obtain ⟨v1, hv1⟩ : ∃ v, a.e s3 = v := ⟨_, rfl⟩
              obtain ⟨v2, hv2⟩ : ∃ v, b.e s3 = v := ⟨_, rfl⟩
              rw [hv1] at hcA
              rw [hv2] at hcB
              have HV : Hid (a.e s3 = v1 ∧ b.e s3 = v2) := ⟨hv1, hv2⟩
              clear hv1 hv2 l32 m32
              by_cases hvv : v1 = v2
              · have g5 : ((v1 : Int) != (v2 : Int)) = false := by simp [hvv]
                have HRE2 : Hid (∀ t, t < s3 + 1 → a.e t = b.e t) := fun t ht => by
                  by_cases e : t = s3
                  · rw [e, HV.out.1, HV.out.2, hvv]
                  · exact HRE.out t (by omega)
                clear hvv HV
                go_wp2_with fail
                go_quiet (fail)
                have HXE : Hid (Sx w (wr.drewN nq) D a b A1 A2 A3 B1 B2 B3 As Bs) := HX.out.drew nq
                clear HX
                go_wp2
                go_roundw
                case rel => exact ⟨s3 + 1, by go_num, by omega, HRE2, HXE⟩
                case measure => simp [intOf]; omega
              · have g5 : ((v1 : Int) != (v2 : Int)) = true := by simp; omega
                have HF : Hid (ok = false) := by show _ = _; rw [← HOK.out]; exact sameT_no (fun e => hvv (by rw [← HV.out.1, ← HV.out.2]; unfold Dt.e; rw [e.2.2]))
                go_wp2_with fail
                go_quiet (fail)
                have HBE : Hid (Below w.heap.size w (wr.drewN nq)) := (HX.out.drew nq).low
                go_wp2
                go_ret
                exact ⟨by rw [HF.out]; rfl, HBE.out⟩
            · have hlt3' : ¬ (s3 : Int) < (E : Int) := by omega
              have HEN : Hid (a.en = b.en) := list_eq 0 (by rw [HSA.out.2.2, HSB.out.2.2, H3.out]) (fun t ht => HRE.out t (by rw [HSA.out.2.2] at ht; omega))
              have HF : Hid (ok = true) := by show _ = _; rw [← HOK.out]; exact (sameT_iff a b).2 ⟨(clB_iff _ _).1 HEC.out, HNX.out, HFO.out, HEN.out⟩
              have HBE : Hid (Below w.heap.size w wr) := HX.out.low
              go_wp2
              go_ret
              exact ⟨by rw [HF.out]; rfl, HBE.out⟩
end Go.Proofs.YtdngileimmgdnaaDoor
