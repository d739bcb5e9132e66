/- table.image of a table that fits; Encode. -/
import Derived.Test.YtdngileimmgdnaaDoorG10
namespace Go.Proofs.YtdngileimmgdnaaDoor
open Go.RowKit
attribute [local go_sem ↓] Go.wp_at_zero Go.wp_at_succ

theorem classB_succ (d : Dt) (k : Nat) : classB d (k + 1) = classB d k ++ Rec.num (d.cl k).toNat 1 := flat_snoc _ _
theorem statesB_succ (d : Dt) (s : Nat) : statesB d (s + 1) = statesB d s ++ stateB d s := flat_snoc _ _
theorem rowB_snoc (r : List Int) (c : Nat) (h : c < r.length) : rowB (r.take (c + 1)) = rowB (r.take c) ++ Rec.num (r.getD c 0).toNat 2 := by
  rw [Rec.take_snoc r c h]
  simp [rowB]
theorem Fits.len_bd {d : Dt} (h : Fits d) {n : Nat} (hn : n ≤ d.S) : (statesB d n).length ≤ 2129920 := by
  rw [h.statesB_len hn]
  have h1 : n * (8 + 2 * d.C) ≤ 4096 * (8 + 2 * d.C) := Nat.mul_le_mul_right _ (by have := h.s2; omega)
  have := h.c2
  omega
theorem Im.grow {w1 u v : World} {B : Nat} {xs : List Int} (h : Im w1 u B xs) (hb : Below u.heap.size u v) : Im w1 v B xs := by
  obtain ⟨⟨V, h1, h2⟩, h3, h4⟩ := h
  exact ⟨⟨V, h1.later hb, h2.later hb⟩, below_step h3 hb, h4⟩
set_option maxRecDepth 20000 in
set_option maxHeartbeats 16000000 in
theorem image_any (d : Dt) (V1 V2 V3 : Value) (Us : List Value) (w : World) (hd : DfAt w d V1 V2 V3 Us) (hR : rightT d = true) (hT : Tab w) (h0 : 0 < w.heap.size) :
    Calls Tryd.prog 22 #[.agg (dv d.cl V1 V2 V3)] w fun e w' => ∃ v, e = .returned v ∧ OwnsN w' w.heap.size v (imgT d) ∧ Below w.heap.size w w' := by
  have hF := (fits_iff d).1 hR
  obtain ⟨w1, hw1⟩ : ∃ w1, w.alloc (.cells (dv d.cl V1 V2 V3) 26) = w1 := ⟨_, rfl⟩
  obtain ⟨w2, hw2⟩ : ∃ w2, w1.alloc (.cells #[.slice none 0 0] 28) = w2 := ⟨_, rfl⟩
  have k1 : Below w.heap.size w w1 := by rw [← hw1]; exact (Below.refl _ _).alloc (Nat.le_refl _) _
  have k2 : Below w1.heap.size w1 w2 := by rw [← hw2]; exact (Below.refl _ _).alloc (Nat.le_refl _) _
  obtain ⟨D, hD⟩ : ∃ D, w.heap.size = D := ⟨_, rfl⟩
  have z1 : w1.heap.size = D + 1 := by rw [← hw1, ← hD]; simp
  have HD : Hid (DB w1 D d.cl V1 V2 V3) := by rw [← hw1, ← hD]; exact db_new w _ V1 V2 V3
  have HBX : Hid (BX w2 (D + 1) (.slice none 0 0) 28) := by have := bx_new w1 (.slice none 0 0) 28; rw [hw2, z1] at this; exact this
  obtain ⟨a1, c1, a2, c2, a3, c3, e1, e2, e3, l1, m1, l2, m2, l3, m3⟩ := hd.forms
  have HE1 : Hid (V1 = .slice a1 d.S c1) := e1
  have HE2 : Hid (V2 = .slice a2 d.fo.length c2) := e2
  have HE3 : Hid (V3 = .slice a3 d.en.length c3) := e3
  have HT1 : Hid (DfAt w1 d V1 V2 V3 Us) := hd.later k1
  have HTB1 : Hid (Tab w1) := tab_below k1 h0 hT
  have HW1 : Hid (w.alloc (.cells (dv d.cl V1 V2 V3) 26) = w1) := hw1
  have HW2 : Hid (w1.alloc (.cells #[.slice none 0 0] 28) = w2) := hw2
  have HK1 : Hid (Below w.heap.size w w1) := k1
  have HK2 : Hid (Below w1.heap.size w1 w2) := k2
  have HF : Hid (Fits d) := hF
  have HDD : Hid (w.heap.size = D) := hD
  have HZ1 : Hid (w1.heap.size = D + 1) := z1
  obtain ⟨S, hS⟩ : ∃ S, d.S = S := ⟨_, rfl⟩
  obtain ⟨C, hC⟩ : ∃ C, d.C = C := ⟨_, rfl⟩
  have HSS : Hid (d.S = S) := hS
  have HCC : Hid (d.C = C) := hC
  have hs2 := hF.s2
  have hs1 := hF.s1
  have hcc1 := hF.c1
  have hcc2 := hF.c2
  have hle := hF.le
  have hlf := hF.lf
  rw [hS] at l1 hs2 hs1 hle hlf
  rw [hC] at hcc1 hcc2
  have HLE : Hid (d.en.length = S) := hle
  have HLF : Hid (d.fo.length = S) := hlf
  rw [hle] at l3
  rw [hlf] at l2
  clear hw1 hw2 k1 k2 hd hR hF hD e1 e2 e3 hS hC hle hlf z1 hT
  have hmf : ∀ (fn : Fn) (first cap : Array Value) (w : World), (Instr.makeFunc fn first cap).run Tryd.prog w = .ok (.func fn first cap) w := fun _ _ _ _ => rfl
  go_enter Tryd.func22, Tryd.ntmps22
  go_upto_region 1 with fail
  rw [HW1.out, HDD.out]
  clear HW1
  go_upto_region 3 with fail
  rw [HW2.out, HZ1.out]
  clear HW2
  have hbc := HBX.out.cell
  have hbf := HBX.out.frozen
  go_upto_region 4 with (at_builtin; refine wpList_append_textN rfl (.tmp 12) _ rfl w1.heap.size rfl _ rfl (by decide) (by decide) (by have := HK2.out.size; omega) ?_; intro v5 w5 ho5 hg5; obtain ⟨a5, c5, rfl, -⟩ := ho5.form; obtain ⟨L5, hL5⟩ : ∃ L, (Rec.str ⟨#[72, 69, 82, 79, 78, 68, 70, 49]⟩).length = L := ⟨_, rfl⟩; rw [hL5] at ho5 ⊢; have HIM0 : Hid (Im w1 (w5.setCell ⟨D + 1, 0, none⟩ (.slice a5 L5 c5)) (D + 1) wordB) := Im.next HBX.out (ownsN_nil _ _) HK2.out (by rw [HZ1.out]; exact Nat.le_refl _) (Below.refl _ _) ho5 hg5; have hb5 : BX w5 (D + 1) (.slice none 0 0) 28 := (hg5.block _ HBX.out.lt (fun e => by cases e)).trans HBX.out; have hc5 := hb5.cell; have hf5 := hb5.frozen; clear ho5 hg5 hb5 hbc hbf hL5)
  obtain ⟨w6, hw6⟩ : ∃ w6, w5.setCell ⟨D + 1, 0, none⟩ (.slice a5 L5 c5) = w6 := ⟨_, rfl⟩
  rw [hw6] at HIM0 ⊢
  clear hw6 hc5 hf5 HBX HK2
  have q1 := (HD.out.later HIM0.out.low).hi.1
  rw [HE1.out, HSS.out] at q1
  go_wp2_with fail
  refine (lay1_any w1 (D + 1) wordB S 4 _ HIM0.out (by omega) (by decide) (by decide) (by decide)).mono ?_
  rintro e w7 ⟨rfl, him7⟩
  have HIM7 : Hid (Im w1 w7 (D + 1) (wordB ++ Rec.num S 4)) := him7
  clear him7 HIM0 q1
  have q1 := (HD.out.later HIM7.out.low).hi.1
  rw [HE1.out, HSS.out] at q1
  obtain ⟨b1, o1, U0, rfl, hc0, hU0⟩ := (HT1.out.later HIM7.out.low).rowAt (s := 0) (by rw [HSS.out]; omega) HE1.out
  obtain ⟨ua, uc, eU, lU, mU, _⟩ := hU0.intAt
  have hlen0 : (d.row 0).length = C := by rw [← HCC.out]; rfl
  rw [hlen0] at eU lU
  subst eU
  rw [Nat.add_zero] at hc0
  clear hU0 hlen0
  go_wp2_with fail
  refine (lay1_any w1 (D + 1) _ C 2 _ HIM7.out (by omega) (by decide) (by decide) (by simp [Rec.num_length, wordB])).mono ?_
  rintro e w8 ⟨rfl, him8⟩
  have HIM8 : Hid (Im w1 w8 (D + 1) (headB d)) := by show Im _ _ _ _; unfold headB; rw [HSS.out, HCC.out]; exact him8
  clear him8 HIM7 q1 hc0
  have HDB8 : Hid (DB w8 D d.cl V1 V2 V3) := HD.out.later HIM8.out.low
  go_wp2_with (refine wpList_load_cls rfl (.tmp 28) rfl (A := D) (k := 0) (f := d.cl) (fun i hi => by rw [Nat.zero_add]; exact HDB8.out.lo hi) rfl ?_)
  clear HDB8
  go_loopw [30] (fun i u => ∃ k : Nat, i = .int .i64 (k : Nat) ∧ k ≤ 256 ∧ Hid (Im w1 u (D + 1) (headB d ++ classB d k))) (fun i _ => 256 - (intOf i).toNat)
  case atStart => exact ⟨0, rfl, by omega, by show Im _ _ _ _; have := HIM8.out; rw [show classB d 0 = [] from rfl, List.append_nil]; exact this⟩
  case round =>
    obtain ⟨k, rfl, hk, HIM⟩ := hrel
    clear HIM8
    by_cases hlt : k < 256
    · have hix := AB.index d.cl hlt
      have hcl := HF.out.cl k hlt
      rw [HCC.out] at hcl
      obtain ⟨z, hz⟩ : ∃ z : Nat, d.cl k = (z : Int) := ⟨(d.cl k).toNat, by omega⟩
      have HZZ : Hid (d.cl k = (z : Int)) := hz
      rw [hz] at hix hcl
      clear hz
      go_wp2_with fail
      refine (lay1_any w1 (D + 1) _ z 1 _ HIM.out (by omega) (by decide) (by decide) (by rw [List.length_append, headB_len, classB_len]; omega)).mono ?_
      rintro e w9 ⟨rfl, him9⟩
      have HIM9 : Hid (Im w1 w9 (D + 1) (headB d ++ classB d (k + 1))) := by
        show Im _ _ _ _
        rw [classB_succ, HZZ.out, Int.toNat_natCast, ← List.append_assoc]
        exact him9
      clear him9 HIM
      go_wp2
      go_roundw
      case rel => exact ⟨k + 1, by go_num, by omega, HIM9⟩
      case measure => simp [intOf]; omega
    · have hk256 : k = 256 := by omega
      have hge : ¬ (k : Int) < 256 := by omega
      rw [hk256] at HIM
      clear hk256
      have q1 := (HD.out.later HIM.out.low).hi.1
      rw [HE1.out, HSS.out] at q1
      go_wp2_with fail
      go_loopw [41] (fun i u => ∃ s : Nat, i = .int .i64 (s : Nat) ∧ s ≤ S ∧ Hid (Im w1 u (D + 1) (headB d ++ classB d 256 ++ statesB d s))) (fun i _ => S - (intOf i).toNat)
      case atStart => exact ⟨0, rfl, by omega, by show Im _ _ _ _; have := HIM.out; rw [show statesB d 0 = [] from rfl, List.append_nil]; exact this⟩
      case round =>
        obtain ⟨s, rfl, hsn, HIS⟩ := hrel
        clear HIM q1
        have HLB : Hid ((headB d ++ classB d 256 ++ statesB d s).length ≤ 2200000) := by
          show _ ≤ _
          have := HF.out.len_bd (n := s) (by rw [HSS.out]; exact hsn)
          rw [List.length_append, List.length_append, headB_len, classB_len]
          omega
        by_cases hlt : s < S
        · have hlt' : (s : Int) < (S : Int) := by omega
          have hsd : s < d.S := by rw [HSS.out]; exact hlt
          obtain ⟨b1', o1', U, ha, hcU1, hU⟩ := HT1.out.rowAt (s := s) hsd HE1.out
          cases ha
          obtain ⟨va, vc, rfl, lV, mV, hat⟩ := hU.intAt
          have HRL : Hid ((d.row s).length = C) := by show _ = _; rw [HF.out.rl s hsd, HCC.out]
          have hcU := cell_later HIS.out.low _ _ _ hcU1
          rw [HRL.out] at lV hcU
          have HAT : Hid (∀ k, k < C → ∃ b off, va = some ⟨b, off, none⟩ ∧ w1.cell? ⟨b, off + k, none⟩ = some (.int .i64 ((d.row s).getD k 0))) := by
            rw [HRL.out] at hat
            exact hat
          clear hU hat hcU1
          go_wp2_with fail
          obtain ⟨wb, hwb⟩ : ∃ wb, wr = wb := ⟨_, rfl⟩
          rw [hwb] at HIS hcU ⊢
          clear hwb
          go_loopw [48] (fun i u => ∃ c : Nat, i = .int .i64 (c : Nat) ∧ c ≤ C ∧ Hid (Im w1 u (D + 1) (headB d ++ classB d 256 ++ statesB d s ++ rowB ((d.row s).take c)))) (fun i _ => C - (intOf i).toNat)
          case atStart => exact ⟨0, rfl, by omega, by show Im _ _ _ _; have := HIS.out; rw [List.take_zero, show rowB [] = [] from rfl, List.append_nil]; exact this⟩
          case round =>
            obtain ⟨c, rfl, hcn, HIC⟩ := hrel
            have HLC : Hid ((headB d ++ classB d 256 ++ statesB d s ++ rowB ((d.row s).take c)).length ≤ 2200600) := by
              show _ ≤ _
              have := HLB.out
              rw [List.length_append, rowB_len, List.length_take]
              omega
            clear HIS hcU
            by_cases hltc : c < C
            · have hltc' : (c : Int) < (C : Int) := by omega
              have hltr : c < (d.row s).length := by rw [HRL.out]; exact hltc
              obtain ⟨b2, o2, rfl, hc2⟩ := HAT.out c hltc
              have hc3 := cell_later HIC.out.low _ _ _ hc2
              have hmem := HF.out.nx s hsd ((d.row s).getD c 0) (by rw [List.getD_eq_getElem?_getD, List.getElem?_eq_getElem hltr]; exact List.getElem_mem _)
              rw [HSS.out] at hmem
              obtain ⟨z, hz⟩ : ∃ z : Nat, (d.row s).getD c 0 = (z : Int) := ⟨((d.row s).getD c 0).toNat, by omega⟩
              have HZZ : Hid ((d.row s).getD c 0 = (z : Int)) := hz
              rw [hz] at hc3 hmem
              clear hz hc2
              go_wp2_with fail
              refine (lay1_any w1 (D + 1) _ z 2 _ HIC.out (by omega) (by decide) (by decide) (by have := HLC.out; omega)).mono ?_
              rintro e w9 ⟨rfl, him9⟩
              have HIM9 : Hid (Im w1 w9 (D + 1) (headB d ++ classB d 256 ++ statesB d s ++ rowB ((d.row s).take (c + 1)))) := by
                show Im _ _ _ _
                rw [rowB_snoc _ c hltr, HZZ.out, Int.toNat_natCast, ← List.append_assoc]
                exact him9
              clear him9 HIC
              go_wp2
              go_roundw
              case rel => exact ⟨c + 1, by go_num, by omega, HIM9⟩
              case measure => simp [intOf]; omega
            · have hltc' : ¬ (c : Int) < (C : Int) := by omega
              have hce : (d.row s).take c = d.row s := List.take_of_length_le (by rw [HRL.out]; omega)
              rw [hce] at HIC HLC
              clear hce
              have q2 := (HD.out.later HIC.out.low).hi.2.1
              rw [HE2.out, HLF.out] at q2
              obtain ⟨b4, o4, rfl, hcf, hlf⟩ := HT1.out.foAt (s := s) (by rw [HLF.out]; exact hlt) HE2.out
              have hcf2 := cell_later HIC.out.low _ _ _ hcf
              clear hcf
              obtain ⟨F, hFF⟩ : ∃ F, d.f s = F := ⟨_, rfl⟩
              have HFF : Hid (d.f s = F) := hFF
              rw [hFF] at hcf2 hlf
              clear hFF
              go_wp2_with fail
              refine (lay1_any w1 (D + 1) _ F 4 _ HIC.out (by rw [Rec.pow4]; exact hlf) (by decide) (by decide) (by have := HLC.out; omega)).mono ?_
              rintro e w9 ⟨rfl, him9⟩
              have HIF : Hid (Im w1 w9 (D + 1) (headB d ++ classB d 256 ++ statesB d s ++ rowB (d.row s) ++ Rec.num F 4)) := him9
              clear him9 HIC q2 hcf2
              have q3 := (HD.out.later HIF.out.low).hi.2.2
              rw [HE3.out, HLE.out] at q3
              obtain ⟨b5, o5, rfl, hcf, hlf3⟩ := HT1.out.enAt (s := s) (by rw [HLE.out]; exact hlt) HE3.out
              have hcf2 := cell_later HIF.out.low _ _ _ hcf
              clear hcf
              obtain ⟨E, hEE⟩ : ∃ E, d.e s = E := ⟨_, rfl⟩
              have HEE : Hid (d.e s = E) := hEE
              rw [hEE] at hcf2 hlf3
              clear hEE
              go_wp2_with fail
              refine (lay1_any w1 (D + 1) _ E 4 _ HIF.out (by rw [Rec.pow4]; exact hlf3) (by decide) (by decide) (by have := HLC.out; rw [List.length_append, Rec.num_length]; omega)).mono ?_
              rintro e w10 ⟨rfl, him10⟩
              have HIE : Hid (Im w1 w10 (D + 1) (headB d ++ classB d 256 ++ statesB d (s + 1))) := by
                show Im _ _ _ _
                rw [statesB_succ]
                unfold stateB
                rw [HFF.out, HEE.out]
                simp only [← List.append_assoc]
                exact him10
              clear him10 HIF q3 hcf2
              go_wp2
              go_roundw
              case rel => exact ⟨s + 1, by go_num, by omega, HIE⟩
              case measure => simp [intOf]; omega
        · have hlt' : ¬ (s : Int) < (S : Int) := by omega
          have hse : s = S := by omega
          have HIB : Hid (Im w1 wr (D + 1) (bodyB d)) := by
            show Im _ _ _ _
            unfold bodyB
            rw [HSS.out, ← hse]
            exact HIS.out
          have HLB2 : Hid ((bodyB d).length ≤ 2200000) := by show _ ≤ _; unfold bodyB; rw [HSS.out, ← hse]; exact HLB.out
          clear hse HIS HLB
          obtain ⟨⟨V, hbV, hoV⟩, hlV, _⟩ := HIB.out
          have hcV := hbV.cell
          obtain ⟨pa, pc, rfl, hby, hpl, hpm, _, _⟩ := hoV.form
          have HTBr : Hid (Tab wr) := tab_below hlV (by have := HK1.out.size; omega) HTB1.out
          have HOF : Hid (Calls Tryd.prog 35 #[.slice pa (bodyB d).length pc] wr fun e w' => e = .returned (.int .u32 (Crc.more 0 (bodyB d) : Nat)) ∧ w' = wr) := of_any pa pc (bodyB d) wr HTBr.out (by have := HLB2.out; simp only [maxLen]; omega) hby (bs_bodyB d)
          have hcr : Crc.more 0 (bodyB d) < 4294967296 := Crc.more_lt (by decide) (bs_bodyB d)
          obtain ⟨M, hM⟩ : ∃ M, Crc.more 0 (bodyB d) = M := ⟨_, rfl⟩
          have HM : Hid (Crc.more 0 (bodyB d) = M) := hM
          rw [hM] at HOF hcr
          obtain ⟨LB, hLB⟩ : ∃ LB, (bodyB d).length = LB := ⟨_, rfl⟩
          rw [hLB] at HOF hcV
          clear hM hLB hbV hoV hlV hby hpl hpm HTBr
          go_wp2_with fail
          refine HOF.out.mono ?_
          rintro e w11 ⟨rfl, rfl⟩
          clear HOF
          go_wp2_with fail
          refine (lay1_any w1 (D + 1) _ M 4 _ HIB.out (by rw [Rec.pow4]; exact hcr) (by decide) (by decide) (by have := HLB2.out; omega)).mono ?_
          rintro e w12 ⟨rfl, him12⟩
          have HIT : Hid (Im w1 w12 (D + 1) (imgT d)) := by
            show Im _ _ _ _
            unfold imgT sumB
            rw [HM.out]
            exact him12
          clear him12 HIB hcV
          obtain ⟨⟨V, hbV, hoV⟩, hlV, _⟩ := HIT.out
          have hcV := hbV.cell
          have HOV : Hid (OwnsN w12 w1.heap.size V (imgT d)) := hoV
          have HLV : Hid (Below w1.heap.size w1 w12) := hlV
          clear hbV hoV hlV
          go_wp2
          refine bodyPost_ret (v := V) (by simp [results, Tryd.results22, go_sem]) rfl ⟨V, rfl, ?_, below_step HK1.out HLV.out⟩
          have hz : w.heap.size ≤ w1.heap.size := HK1.out.size
          obtain ⟨⟨h1, h2⟩, h3⟩ := HOV.out
          refine ⟨⟨h1, ?_⟩, h3⟩
          rcases h2 with h2 | ⟨g, cap, cur, hv, hBg, hg, rest⟩
          · exact Or.inl h2
          · exact Or.inr ⟨g, cap, cur, hv, by omega, hg, rest⟩
end Go.Proofs.YtdngileimmgdnaaDoor
