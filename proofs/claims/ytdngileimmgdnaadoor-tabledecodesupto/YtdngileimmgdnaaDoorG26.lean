/- heronref12.Encode: the document's image of a table. -/
import Derived.Test.YtdngileimmgdnaaDoorG24
import Derived.Test.YtdngileimmgdnaaDoorG25
import Derived.Lib.SlBytesConst
namespace Go.Proofs.YtdngileimmgdnaaDoor
open Go Go.RowKit
attribute [local go_sem ↓] Go.wp_at_zero Go.wp_at_succ

theorem convB (w : World) (m : Nat) (C : Array Value) (n c : Nat) (hm : m = w.heap.size) : (convert 28 28 (.slice (some ⟨m, 0, none⟩) n c)).run Tryd.prog (w.alloc (.cells C 5)) = .ok (.slice (some ⟨m, 0, none⟩) n c) (w.alloc (.cells C 5 (C.size, C.size + 1))) := by
  subst hm; exact Lib.run_convert_bytes_const (P := Tryd.prog) w 28 5 C n c Tryd.underlying28 Tryd.underlying5
/-- the bytes so far -/
structure Gr (w1 u : World) (b : Value) (xs : List Int) : Prop where
  own : Owns u w1.heap.size b xs
  low : Below w1.heap.size w1 u
theorem gr_low {w1 u : World} {b : Value} {xs : List Int} (h : Gr w1 u b xs) (x n : Nat) (hx : x < 9223372036854775808) (hn : n ≤ 8) (hn1 : 1 ≤ n) (hl : xs.length ≤ 3000000) :
    Calls Tryd.prog 30 #[b, .int .i64 (x : Nat), .int .i64 (n : Nat)] u fun e w' => ∃ v', e = .returned v' ∧ Gr w1 w' v' (xs ++ Rec.num x n) :=
  (low_any w1 b xs x n u hx hn hn1 hl (.inl h.own) h.low).mono fun _ _ ⟨v', he, h1, h2⟩ => ⟨v', he, h1, h2⟩
set_option maxRecDepth 20000 in
set_option maxHeartbeats 16000000 in
theorem rencode_any (d : Dt) (V1 V2 V3 : Value) (Us : List Value) (w : World) (hd : DfAt w d V1 V2 V3 Us) (rc : R64 d.cl) : Calls Tryd.prog 14 #[.agg (dv d.cl V1 V2 V3)] w (EncPost d w) := by
  obtain ⟨w1, hw1⟩ : ∃ w1, w.alloc (.cells (dv d.cl V1 V2 V3) 26) = w1 := ⟨_, rfl⟩
  have k1 : Below w.heap.size w w1 := by rw [← hw1]; exact (Below.refl _ _).alloc (Nat.le_refl _) _
  obtain ⟨D, hD⟩ : ∃ D, w.heap.size = D := ⟨_, rfl⟩
  have HD : Hid (DB w1 D d.cl V1 V2 V3) := by rw [← hw1, ← hD]; exact db_new w _ V1 V2 V3
  obtain ⟨a1, c1, a2, c2, a3, c3, e1, e2, e3, l1, m1, l2, m2, l3, m3⟩ := hd.forms
  have HE1 : Hid (V1 = .slice a1 d.S c1) := e1
  have HE2 : Hid (V2 = .slice a2 d.fo.length c2) := e2
  have HE3 : Hid (V3 = .slice a3 d.en.length c3) := e3
  have HT1 : Hid (DfAt w1 d V1 V2 V3 Us) := hd.later k1
  have HW1 : Hid (w.alloc (.cells (dv d.cl V1 V2 V3) 26) = w1) := hw1
  have HK1 : Hid (Below w.heap.size w w1) := k1
  have HDD : Hid (w.heap.size = D) := hD
  have HRI : Hid (Calls Tryd.prog 29 #[.agg (dv d.cl V1 V2 V3)] w1 fun e w' => e = .returned (.bool (rightT d)) ∧ Below w1.heap.size w1 w') := rright_any d V1 V2 V3 Us w1 HT1.out rc
  obtain ⟨rt, hrt⟩ : ∃ rt, rightT d = rt := ⟨_, rfl⟩
  have HRT : Hid (rightT d = rt) := hrt
  rw [hrt] at HRI
  clear hw1 k1 hd hD e1 e2 e3 rc hrt
  go_enter Tryd.func14, Tryd.ntmps14
  go_upto_region 1 with fail
  rw [HW1.out, HDD.out]
  clear HW1
  go_wp2_with (refine wpList_load_dfa rfl (.tmp 1) rfl HD.out rfl ?_)
  refine HRI.out.mono ?_
  rintro e w2 ⟨rfl, k2⟩
  have HK2 : Hid (Below w1.heap.size w1 w2) := k2
  clear HRI k2
  cases rt with
  | false =>
    have HBE : Hid (Below w.heap.size w w2) := below_step HK1.out HK2.out
    go_wp2
    exact bodyPost_ret (v := .tuple #[.slice none 0 0, .int .i64 70]) (by simp [results, Tryd.results14, go_sem]) rfl ⟨⟨_, by rw [HRT.out]; rfl, by rw [HRT.out]; exact ownsN_nil _ _⟩, HBE.out⟩
  | true =>
  have hF := (fits_iff d).1 HRT.out
  have HF : Hid (Fits d) := hF
  obtain ⟨S, hS⟩ : ∃ S, d.S = S := ⟨_, rfl⟩
  obtain ⟨C, hC⟩ : ∃ C, d.C = C := ⟨_, rfl⟩
  have HSS : Hid (d.S = S) := hS
  have HCC : Hid (d.C = C) := hC
  have hs2 := hF.s2
  have hs1 := hF.s1
  have hcc1 := hF.c1
  have hcc2 := hF.c2
  have hle := hF.le
  have hlf := hF.lf
  rw [hS] at l1 hs2 hs1 hle hlf
  rw [hC] at hcc1 hcc2
  have HLE : Hid (d.en.length = S) := hle
  have HLF : Hid (d.fo.length = S) := hlf
  rw [hle] at l3
  rw [hlf] at l2
  clear hF hS hC hle hlf
  obtain ⟨w3, hw3⟩ : ∃ w3, w2.alloc (.cells (cellsOf wordB).toArray 5 (8, 9)) = w3 := ⟨_, rfl⟩
  have k3 : Below w2.heap.size w2 w3 := by rw [← hw3]; exact (Below.refl _ _).alloc (Nat.le_refl _) _
  have HK3 : Hid (Below w1.heap.size w1 w3) := below_step HK2.out k3
  have HBW : Hid (BytesAt w3 (some ⟨w2.heap.size, 0, none⟩) wordB) := by rw [← hw3]; exact bytesAt_new w2 wordB 5 (8, 9)
  have HW3 : Hid (w2.alloc (.cells #[.int .u8 72, .int .u8 69, .int .u8 82, .int .u8 79, .int .u8 78, .int .u8 68, .int .u8 70, .int .u8 49] 5 (8, 9)) = w3) := hw3
  have HZ3 : Hid (w2.heap.size < w3.heap.size) := by show _ < _; rw [← hw3]; simp
  clear hw3 k3
  obtain ⟨m2', hm2⟩ : ∃ m, w2.heap.size = m := ⟨_, rfl⟩
  have HM2 : Hid (w2.heap.size = m2') := hm2
  rw [hm2] at HBW HZ3
  clear hm2
  have kc := convB
  have q1 := (HD.out.later HK3.out).hi.1
  rw [HE1.out, HSS.out] at q1
  go_upto_region 5 with fail
  rw [HW3.out, HM2.out]
  clear HW3 HM2 kc
  go_wp2_with fail
  refine (low_any w1 _ wordB S 4 w3 (by omega) (by decide) (by decide) (by decide) (.inr ⟨m2', rfl, HBW.out, HZ3.out, by decide⟩) HK3.out).mono ?_
  rintro e w7 ⟨v7, rfl, ho7, hb7⟩
  have HG7 : Hid (Gr w1 w7 v7 (wordB ++ Rec.num S 4)) := ⟨ho7, hb7⟩
  clear ho7 hb7 HBW HK3 HZ3 HK2 q1
  have q1 := (HD.out.later HG7.out.low).hi.1
  rw [HE1.out, HSS.out] at q1
  obtain ⟨b1, o1, U0, rfl, hc0, hU0⟩ := (HT1.out.later HG7.out.low).rowAt (s := 0) (by rw [HSS.out]; omega) HE1.out
  obtain ⟨ua, uc, eU, lU, mU, _⟩ := hU0.intAt
  have hlen0 : (d.row 0).length = C := by rw [← HCC.out]; rfl
  rw [hlen0] at eU lU
  subst eU
  rw [Nat.add_zero] at hc0
  clear hU0 hlen0
  go_wp2_with fail
  refine (gr_low HG7.out C 2 (by omega) (by decide) (by decide) (by simp [Rec.num_length, wordB])).mono ?_
  rintro e w8 ⟨v8, rfl, hg8⟩
  have HG8 : Hid (Gr w1 w8 v8 (headB d)) := by show Gr _ _ _ _; unfold headB; rw [HSS.out, HCC.out]; exact hg8
  clear hg8 HG7 q1 hc0
  go_wp2_with fail
  go_loopw [5, 6] (fun b i u => ∃ k : Nat, i = .int .i64 (k : Nat) ∧ k ≤ 256 ∧ Hid (Gr w1 u b (headB d ++ classB d k))) (fun _ i _ => 256 - (intOf i).toNat)
  case atStart => exact ⟨0, rfl, by omega, by show Gr _ _ _ _; have := HG8.out; rw [show classB d 0 = [] from rfl, List.append_nil]; exact this⟩
  case round =>
    obtain ⟨k, rfl, hk, HIM⟩ := hrel
    clear HG8
    by_cases hlt : k < 256
    · have hix := (HD.out.later HIM.out.low).lo hlt
      have hcl := HF.out.cl k hlt
      rw [HCC.out] at hcl
      obtain ⟨z, hz⟩ : ∃ z : Nat, d.cl k = (z : Int) := ⟨(d.cl k).toNat, by omega⟩
      have HZZ : Hid (d.cl k = (z : Int)) := hz
      rw [hz] at hix hcl
      clear hz
      go_wp2_with fail
      refine (gr_low HIM.out z 1 (by omega) (by decide) (by decide) (by rw [List.length_append, headB_len, classB_len]; omega)).mono ?_
      rintro e w9 ⟨v9, rfl, him9⟩
      have HIM9 : Hid (Gr w1 w9 v9 (headB d ++ classB d (k + 1))) := by
        show Gr _ _ _ _
        rw [classB_succ, HZZ.out, Int.toNat_natCast, ← List.append_assoc]
        exact him9
      clear him9 HIM
      go_wp2
      go_roundw
      case rel => exact ⟨k + 1, by go_num, by omega, HIM9⟩
      case measure => simp [intOf]; omega
    · have hk256 : k = 256 := by omega
      have hge : ¬ (k : Int) < 256 := by omega
      rw [hk256] at HIM
      clear hk256
      go_wp2_with fail
      go_loopw [5, 7] (fun b i u => ∃ s : Nat, i = .int .i64 (s : Nat) ∧ s ≤ S ∧ Hid (Gr w1 u b (headB d ++ classB d 256 ++ statesB d s))) (fun _ i _ => S - (intOf i).toNat)
      case atStart => exact ⟨0, rfl, by omega, by show Gr _ _ _ _; have := HIM.out; rw [show statesB d 0 = [] from rfl, List.append_nil]; exact this⟩
      case round =>
        obtain ⟨s, rfl, hsn, HIS⟩ := hrel
        clear HIM
        have q1 := (HD.out.later HIS.out.low).hi.1
        rw [HE1.out, HSS.out] at q1
        have HLB : Hid ((headB d ++ classB d 256 ++ statesB d s).length ≤ 2200000) := by
          show _ ≤ _
          have := HF.out.len_bd (n := s) (by rw [HSS.out]; exact hsn)
          rw [List.length_append, List.length_append, headB_len, classB_len]
          omega
        by_cases hlt : s < S
        · have hlt' : (s : Int) < (S : Int) := by omega
          have hsd : s < d.S := by rw [HSS.out]; exact hlt
          obtain ⟨b1', o1', U, ha, hcU1, hU⟩ := HT1.out.rowAt (s := s) hsd HE1.out
          cases ha
          obtain ⟨va, vc, rfl, lV, mV, hat⟩ := hU.intAt
          have HRL : Hid ((d.row s).length = C) := by show _ = _; rw [HF.out.rl s hsd, HCC.out]
          rw [HRL.out] at lV hcU1
          have HCU : Hid (w1.cell? ⟨b1, o1 + s, none⟩ = some (.slice va C vc)) := hcU1
          have HAT : Hid (∀ k, k < C → ∃ b off, va = some ⟨b, off, none⟩ ∧ w1.cell? ⟨b, off + k, none⟩ = some (.int .i64 ((d.row s).getD k 0))) := by
            rw [HRL.out] at hat
            exact hat
          clear hU hat hcU1
          go_wp2_with fail
          obtain ⟨wb, hwb⟩ : ∃ wb, wr = wb := ⟨_, rfl⟩
          rw [hwb] at HIS q1 ⊢
          clear hwb q1
          go_loopw [5, 8] (fun b i u => ∃ c : Nat, i = .int .i64 (c : Nat) ∧ c ≤ C ∧ Hid (Gr w1 u b (headB d ++ classB d 256 ++ statesB d s ++ rowB ((d.row s).take c)))) (fun _ i _ => C - (intOf i).toNat)
          case atStart => exact ⟨0, rfl, by omega, by show Gr _ _ _ _; have := HIS.out; rw [List.take_zero, show rowB [] = [] from rfl, List.append_nil]; exact this⟩
          case round =>
            obtain ⟨c, rfl, hcn, HIC⟩ := hrel
            have HLC : Hid ((headB d ++ classB d 256 ++ statesB d s ++ rowB ((d.row s).take c)).length ≤ 2200600) := by
              show _ ≤ _
              have := HLB.out
              rw [List.length_append, rowB_len, List.length_take]
              omega
            have q1 := (HD.out.later HIC.out.low).hi.1
            rw [HE1.out, HSS.out] at q1
            have hcU := cell_later HIC.out.low _ _ _ HCU.out
            by_cases hltc : c < C
            · have hltc' : (c : Int) < (C : Int) := by omega
              have hltr : c < (d.row s).length := by rw [HRL.out]; exact hltc
              obtain ⟨b2, o2, rfl, hc2⟩ := HAT.out c hltc
              have hc3 := cell_later HIC.out.low _ _ _ hc2
              have hmem := HF.out.nx s hsd ((d.row s).getD c 0) (by rw [List.getD_eq_getElem?_getD, List.getElem?_eq_getElem hltr]; exact List.getElem_mem _)
              rw [HSS.out] at hmem
              obtain ⟨z, hz⟩ : ∃ z : Nat, (d.row s).getD c 0 = (z : Int) := ⟨((d.row s).getD c 0).toNat, by omega⟩
              have HZZ : Hid ((d.row s).getD c 0 = (z : Int)) := hz
              rw [hz] at hc3 hmem
              clear hz hc2
              go_wp2_with fail
              refine (gr_low HIC.out z 2 (by omega) (by decide) (by decide) (by have := HLC.out; omega)).mono ?_
              rintro e w9 ⟨v9, rfl, him9⟩
              have HIM9 : Hid (Gr w1 w9 v9 (headB d ++ classB d 256 ++ statesB d s ++ rowB ((d.row s).take (c + 1)))) := by
                show Gr _ _ _ _
                rw [rowB_snoc _ c hltr, HZZ.out, Int.toNat_natCast, ← List.append_assoc]
                exact him9
              clear him9 HIC q1 hcU hc3
              go_wp2
              go_roundw
              case rel => exact ⟨c + 1, by go_num, by omega, HIM9⟩
              case measure => simp [intOf]; omega
            · have hltc' : ¬ (c : Int) < (C : Int) := by omega
              have hce : (d.row s).take c = d.row s := List.take_of_length_le (by rw [HRL.out]; omega)
              rw [hce] at HIC HLC
              clear hce
              have q2 := (HD.out.later HIC.out.low).hi.2.1
              rw [HE2.out, HLF.out] at q2
              obtain ⟨b4, o4, rfl, hcf, hlf⟩ := HT1.out.foAt (s := s) (by rw [HLF.out]; exact hlt) HE2.out
              have hcf2 := cell_later HIC.out.low _ _ _ hcf
              clear hcf
              obtain ⟨F, hFF⟩ : ∃ F, d.f s = F := ⟨_, rfl⟩
              have HFF : Hid (d.f s = F) := hFF
              rw [hFF] at hcf2 hlf
              clear hFF
              go_wp2_with fail
              refine (gr_low HIC.out F 4 (by omega) (by decide) (by decide) (by have := HLC.out; omega)).mono ?_
              rintro e w9 ⟨v9, rfl, him9⟩
              have HIF : Hid (Gr w1 w9 v9 (headB d ++ classB d 256 ++ statesB d s ++ rowB (d.row s) ++ Rec.num F 4)) := him9
              clear him9 HIC q2 hcf2 q1 hcU
              have q3 := (HD.out.later HIF.out.low).hi.2.2
              rw [HE3.out, HLE.out] at q3
              obtain ⟨b5, o5, rfl, hcf, hlf3⟩ := HT1.out.enAt (s := s) (by rw [HLE.out]; exact hlt) HE3.out
              have hcf2 := cell_later HIF.out.low _ _ _ hcf
              clear hcf
              obtain ⟨E, hEE⟩ : ∃ E, d.e s = E := ⟨_, rfl⟩
              have HEE : Hid (d.e s = E) := hEE
              rw [hEE] at hcf2 hlf3
              clear hEE
              go_wp2_with fail
              refine (gr_low HIF.out E 4 (by omega) (by decide) (by decide) (by have := HLC.out; rw [List.length_append, Rec.num_length]; omega)).mono ?_
              rintro e w10 ⟨v10, rfl, him10⟩
              have HIE : Hid (Gr w1 w10 v10 (headB d ++ classB d 256 ++ statesB d (s + 1))) := by
                show Gr _ _ _ _
                rw [statesB_succ]
                unfold stateB
                rw [HFF.out, HEE.out]
                simp only [← List.append_assoc]
                exact him10
              clear him10 HIF q3 hcf2
              go_wp2
              go_roundw
              case rel => exact ⟨s + 1, by go_num, by omega, HIE⟩
              case measure => simp [intOf]; omega
        · have hlt' : ¬ (s : Int) < (S : Int) := by omega
          have hse : s = S := by omega
          have HIB : Hid (Gr w1 wr u5 (bodyB d)) := by
            show Gr _ _ _ _
            unfold bodyB
            rw [HSS.out, ← hse]
            exact HIS.out
          have HLB2 : Hid ((bodyB d).length ≤ 2200000) := by show _ ≤ _; unfold bodyB; rw [HSS.out, ← hse]; exact HLB.out
          clear hse HIS HLB
          go_wp2_with fail
          refine (summed_any w1 u5 (bodyB d) wr (by have := HLB2.out; omega) (bs_bodyB d) HIB.out.own HIB.out.low).mono ?_
          rintro e w11 ⟨v11, rfl, ho11, hb11⟩
          have HO : Hid (Owns w11 w1.heap.size v11 (imgT d)) := ho11
          have HBE : Hid (Below w.heap.size w w11) := below_step HK1.out hb11
          clear ho11 hb11 q1
          go_wp2
          refine bodyPost_ret (v := .tuple #[v11, .int .i64 0]) (by simp [results, Tryd.results14, go_sem]) rfl ⟨⟨v11, by rw [HRT.out]; rfl, ?_⟩, HBE.out⟩
          rw [HRT.out, if_pos rfl]
          have h := HO.out.lower HK1.out.size
          exact ⟨h.1, fun e => absurd e (fun e => by have := HF.out.imgT_len; rw [e] at this; simp at this; omega), fun _ => h.2⟩
end Go.Proofs.YtdngileimmgdnaaDoor
