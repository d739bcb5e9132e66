/- table.read: the walk. -/
import Derived.Test.YtdngileimmgdnaaDoorG16
namespace Go.Proofs.YtdngileimmgdnaaDoor
open Go.RowKit
attribute [local go_sem ↓] Go.wp_at_zero Go.wp_at_succ

/-- a row that is being read -/
def prow (zs : List Int) (j c : Nat) : List Int := (List.range (rdC zs)).map fun i => if i < c then ((vl zs (270 + j * rdL zs + i * 2) 2 : Nat) : Int) else 0
theorem prow_len (zs : List Int) (j c : Nat) : (prow zs j c).length = rdC zs := by simp [prow]
theorem prow_zero (zs : List Int) (j : Nat) : prow zs j 0 = List.replicate (rdC zs) 0 := by
  apply List.ext_getElem (by simp [prow])
  intro i h1 h2
  simp [prow]
theorem prow_all (zs : List Int) (j : Nat) : prow zs j (rdC zs) = rdRow zs j := by
  unfold prow rdRow
  refine List.map_congr_left (fun i hi => ?_)
  rw [if_pos (by simpa using hi)]
theorem prow_set (zs : List Int) (j c : Nat) : (ints (prow zs j c)).set c (.int .i64 ((vl zs (270 + j * rdL zs + c * 2) 2 : Nat) : Int)) = ints (prow zs j (c + 1)) := by
  apply List.ext_getElem?
  intro i
  rw [List.getElem?_set]
  by_cases hi : i < rdC zs
  · by_cases e : c = i
    · subst e
      simp [ints, prow, hi]
    · have e2 : (i < c + 1) ↔ i < c := by omega
      simp [ints, prow, hi, e, e2]
  · rw [List.getElem?_eq_none (l := ints (prow zs j (c + 1))) (by simp [ints, prow]; omega)]
    by_cases e : c = i
    · subst e
      simp [ints, prow, hi]
    · simp [ints, prow, hi, e]
theorem map_succ {α : Type} (f : Nat → α) (n : Nat) : (List.range (n + 1)).map f = (List.range n).map f ++ [f n] := by rw [List.range_succ, List.map_append]; rfl
theorem u32_snoc (l : List Nat) (x : Nat) : u32s l ++ [.int .u32 (x : Nat)] = u32s (l ++ [x]) := by simp [u32s]
/-- what read answers -/
def ReadPost (zs : List Int) (w : World) (e : Ending) (w' : World) : Prop :=
  ∃ f V1 V2 V3, e = .returned (.tuple #[.agg (dv f V1 V2 V3), .bool (wholeT zs)]) ∧ (V1.oneCell' = true ∧ V2.oneCell' = true ∧ V3.oneCell' = true) ∧ Below w.heap.size w w' ∧
    (wholeT zs = true → f = rdCl zs ∧ ∃ Us Hb T, Tm w.heap.size Hb T (rdCl zs) (rdT zs).nx (rdT zs).fo (rdT zs).en V1 V2 V3 Us w')
set_option maxRecDepth 20000 in
set_option maxHeartbeats 16000000 in
theorem read_any' (a : Option Addr) (n cap : Nat) (zs : List Int) (w : World) (hn : n = zs.length) (hb : BytesAt w a zs) (hbs : Rec.Bs zs) (hl : n ≤ 140737488355328) :
    Calls Tryd.prog 24 #[.slice a n cap] w (ReadPost zs w) := by
  obtain ⟨A, hA⟩ : ∃ A, w.heap.size = A := ⟨_, rfl⟩
  obtain ⟨w1, hw1⟩ : ∃ w1, w.alloc (.cells (dv (fun _ => 0) nilV nilV nilV) 26) = w1 := ⟨_, rfl⟩
  have z1 : w1.heap.size = A + 1 := by rw [← hw1, ← hA]; simp
  have k1 : Below w.heap.size w w1 := by rw [← hw1]; exact (Below.refl _ _).alloc (Nat.le_refl _) _
  have HDB : Hid (DB w1 A (fun _ => 0) nilV nilV nilV) := by rw [← hw1, ← hA]; exact db_new w _ _ _ _
  have HRD : Hid (Calls Tryd.prog 36 #[.slice a n cap] w1 fun e w' => ∃ P H, e = .returned (.pointer (some ⟨P, 0, none⟩)) ∧ w1.heap.size ≤ P ∧ w1.heap.size ≤ H ∧ Rd w' P H 0 zs ∧ Below w1.heap.size w1 w' ∧ TyB w' 5 H) := read_anyT a n cap zs w1 hn (bytesAt_later k1 hb) hl
  have HW1 : Hid (w.alloc (.cells (dv (fun _ => 0) nilV nilV nilV) 26) = w1) := hw1
  have HAA : Hid (w.heap.size = A) := hA
  have HZ1 : Hid (w1.heap.size = A + 1) := z1
  have HK1 : Hid (Below w.heap.size w w1) := k1
  have HB : Hid (Rec.Bs zs) := hbs
  have HL : Hid (zs.length ≤ 140737488355328) := by rw [← hn]; exact hl
  clear hn hb hbs hl hA hw1 z1 k1
  have hz := zeroDfa
  go_enter Tryd.func24, Tryd.ntmps24
  go_upto_region 1 with fail
  rw [HW1.out, HAA.out]
  clear HW1
  first | go_step3 | skip
  go_wp2_with fail
  refine HRD.out.mono ?_
  rintro e w2 ⟨P, H, rfl, hP, hH, hrd, k2, hty⟩
  have HRD2 : Hid (Rd w2 P H 0 zs) := hrd
  have HK2 : Hid (Below w.heap.size w w2) := below_step HK1.out k2
  have HDB2 : Hid (DB w2 A (fun _ => 0) nilV nilV nilV) := HDB.out.later k2
  have HTY2 : Hid (TyB w2 5 H) := hty
  have HPP : Hid (A + 1 ≤ P) := by rw [← HZ1.out]; exact hP
  have HHH : Hid (A + 1 ≤ H) := by rw [← HZ1.out]; exact hH
  clear HRD hP hH hrd k2 hty HDB HK1
  go_wp2_with fail
  refine (size_any P H zs _ HRD2.out HB.out HL.out).mono ?_
  rintro e w3 ⟨hcase, hg3⟩
  have HK3 : Hid (Below w.heap.size w w3) := HK2.out.grown hg3 HK2.out.size (fun b hb => by cases hb; have := HPP.out; have := HAA.out; omega)
  have HTY3 : Hid (TyB w3 5 H) := HTY2.out.same (hg3.block H (by obtain ⟨c, z, hc⟩ := HTY2.out; exact (Array.getElem?_eq_some_iff.1 hc).1) (by have := HRD2.out.Pne; simp; omega))
  have HDB3 : Hid (DB w3 A (fun _ => 0) nilV nilV nilV) := HDB2.out.same (hg3.block A HDB2.out.lt (by have := HPP.out; simp; omega))
  clear hg3 HK2 HTY2 HDB2 HRD2
  rcases hcase with ⟨hsz, rfl, hrd3⟩ | ⟨hsz, rfl⟩
  case inr =>
    have HF : Hid (wholeT zs = false) := by
      show _ = _
      apply Classical.byContradiction
      intro hne
      have hw : wholeT zs = true := by simpa using hne
      obtain ⟨p1, p2, p3, p4⟩ := whole_parts hw
      have : sizeT zs = true := by
        unfold sizeT headT
        rw [decide_eq_true p1, decide_eq_true (show 14 ≤ zs.length by omega), decide_eq_true (show rdS zs ≤ 4096 ∧ rdC zs ≤ 256 from ⟨p2, p3⟩)]
        rfl
      rw [this] at hsz
      cases hsz
    have HE : Hid (Below w.heap.size w (w3.setRow A (dv (fun _ => 0) nilV nilV nilV))) := below_row HK3.out (by have := HAA.out; omega) _
    have HRES : Hid (DB (w3.setRow A (dv (fun _ => 0) nilV nilV nilV)) A (fun _ => 0) nilV nilV nilV) := HDB3.out.row _ _ _ _
    clear hsz HK3
    go_wp2_with (first
      | refine wpList_build_dfa0 rfl rfl ?_
      | refine wpList_store_dfa rfl (.tmp 2) (.tmp 27) rfl HDB3.out ⟨rfl, rfl, rfl⟩ rfl rfl ?_)
    first | rw [Exit.noGoto_ret] | skip
    exact bodyPost_ret (results_dfa rfl _ _ HRES.out (v := .bool false) rfl rfl) rfl ⟨_, nilV, nilV, nilV, by rw [HF.out], ⟨rfl, rfl, rfl⟩, HE.out, fun h => by rw [HF.out] at h; cases h⟩
  obtain ⟨S, hS⟩ : ∃ S, rdS zs = S := ⟨_, rfl⟩
  obtain ⟨C, hC⟩ : ∃ C, rdC zs = C := ⟨_, rfl⟩
  have HSS : Hid (rdS zs = S) := hS
  have HCC : Hid (rdC zs = C) := hC
  have HSZ : Hid (14 ≤ zs.length ∧ S ≤ 4096 ∧ C ≤ 256 ∧ headT zs = true) := by
    unfold sizeT at hsz
    simp only [Bool.and_eq_true, decide_eq_true_eq] at hsz
    rw [hS, hC] at hsz
    exact ⟨hsz.2.1, hsz.2.2.1, hsz.2.2.2, hsz.1⟩
  have hs4 : S ≤ 4096 := HSZ.out.2.1
  have hc2 : C ≤ 256 := HSZ.out.2.2.1
  rw [hS, hC]
  have HRD3 : Hid (Rd w3 P H 14 (zs.drop 14)) := hrd3
  clear hS hC hsz hrd3
  obtain ⟨w4, hw4⟩ : ∃ w4, w3.alloc (.cells (dv (fun _ => 0) nilV nilV nilV) 26) = w4 := ⟨_, rfl⟩
  obtain ⟨T, hT⟩ : ∃ T, w3.heap.size = T := ⟨_, rfl⟩
  have k4 : Below w3.heap.size w3 w4 := by rw [← hw4]; exact (Below.refl _ _).alloc (Nat.le_refl _) _
  have HT4 : Hid (DB w4 T (fun _ => 0) nilV nilV nilV) := by rw [← hw4, ← hT]; exact db_new w3 _ _ _ _
  have hHl : H < w3.heap.size := by obtain ⟨c, z, hc⟩ := HTY3.out; exact (Array.getElem?_eq_some_iff.1 hc).1
  have HRD4 : Hid (Rd w4 P H 14 (zs.drop 14)) := HRD3.out.move k4 HRD3.out.P_lt hHl
  have HTY4 : Hid (TyB w4 5 H) := HTY3.out.same (k4.block H hHl)
  have HDB4 : Hid (DB w4 A (fun _ => 0) nilV nilV nilV) := HDB3.out.later k4
  have HK4 : Hid (Below w.heap.size w w4) := below_step HK3.out k4
  have HW4 : Hid (w3.alloc (.cells (dv (fun _ => 0) nilV nilV nilV) 26) = w4) := hw4
  have HTT : Hid (w3.heap.size = T) := hT
  have HOR : Hid (A < T ∧ P < T ∧ H < T) := ⟨by have := HDB3.out.lt; omega, by have := HRD3.out.P_lt; omega, by omega⟩
  clear hw4 hT k4 HRD3 HTY3 HDB3 HK3 hHl
  go_upto_region 6 with fail
  rw [HW4.out, HTT.out]
  clear HW4
  go_wp2_with fail
  refine (class_any P H zs _ HRD4.out (by obtain ⟨c, z, hc⟩ := HTY4.out; exact (Array.getElem?_eq_some_iff.1 hc).1) HB.out HL.out HSZ.out.1).mono ?_
  rintro e w5 ⟨hcase, hg5⟩
  have HK5 : Hid (Below w.heap.size w w5) := HK4.out.grown hg5 HK4.out.size (fun b hb => by cases hb; have := HPP.out; have := HAA.out; omega)
  have HTY5 : Hid (TyB w5 5 H) := HTY4.out.same (hg5.block H (by obtain ⟨c, z, hc⟩ := HTY4.out; exact (Array.getElem?_eq_some_iff.1 hc).1) (by have := HRD4.out.Pne; simp; omega))
  have HDB5 : Hid (DB w5 A (fun _ => 0) nilV nilV nilV) := HDB4.out.same (hg5.block A HDB4.out.lt (by have := HPP.out; simp; omega))
  have HT5 : Hid (DB w5 T (fun _ => 0) nilV nilV nilV) := HT4.out.same (hg5.block T HT4.out.lt (by have := HOR.out; simp; omega))
  clear hg5 HK4 HTY4 HDB4 HRD4 HT4
  rcases hcase with ⟨h270, rfl, hrd5⟩ | ⟨h270, rfl⟩
  case inr =>
    have HF : Hid (wholeT zs = false) := by
      show _ = _
      apply Classical.byContradiction
      intro hne
      have hw : wholeT zs = true := by simpa using hne
      obtain ⟨p1, p2, p3, p4⟩ := whole_parts hw
      omega
    obtain ⟨w6, hw6⟩ : ∃ w6, w5.setCells T 0 (cv fun _ => 0).toList = w6 := ⟨_, rfl⟩
    have HW6 : Hid (w5.setCells T 0 (cv fun _ => 0).toList = w6) := hw6
    have HK6 : Hid (Below w.heap.size w w6) := by rw [← hw6]; exact setCells_below T (by have := HOR.out; have := HAA.out; omega) _ _ HK5.out
    have HDB6 : Hid (DB w6 A (fun _ => 0) nilV nilV nilV) := HDB5.out.same (by rw [← hw6]; exact setCells_heap T _ _ _ (by have := HOR.out; omega))
    have HE : Hid (Below w.heap.size w (w6.setRow A (dv (fun _ => 0) nilV nilV nilV))) := below_row HK6.out (by have := HAA.out; omega) _
    have HRES : Hid (DB (w6.setRow A (dv (fun _ => 0) nilV nilV nilV)) A (fun _ => 0) nilV nilV nilV) := HDB6.out.row _ _ _ _
    have HTH : Hid (w5.there T 0 256) := HT5.out.there
    clear h270 HK5 hw6 HK6
    go_wp2_with (first
      | (refine wpList_store_cls rfl (.tmp 33) (.tmp 31) rfl (A := T) (k := 0) HTH.out rfl rfl ?_; rw [HW6.out])
      | refine wpList_build_dfa0 rfl rfl ?_
      | refine wpList_store_dfa rfl (.tmp 2) (.tmp 36) rfl HDB6.out ⟨rfl, rfl, rfl⟩ rfl rfl ?_)
    first | rw [Exit.noGoto_ret] | skip
    exact bodyPost_ret (results_dfa rfl _ _ HRES.out (v := .bool false) rfl rfl) rfl ⟨_, nilV, nilV, nilV, by rw [HF.out], ⟨rfl, rfl, rfl⟩, HE.out, fun h => by rw [HF.out] at h; cases h⟩
  obtain ⟨w6, hw6⟩ : ∃ w6, w5.setCells T 0 (cv (rdCl zs)).toList = w6 := ⟨_, rfl⟩
  have HW6 : Hid (w5.setCells T 0 (cv (rdCl zs)).toList = w6) := hw6
  have hoth : ∀ b, b ≠ T → w6.heap[b]? = w5.heap[b]? := fun b hb => by rw [← hw6]; exact setCells_heap T _ _ _ hb
  have HT6 : Hid (DB w6 T (rdCl zs) nilV nilV nilV) := by rw [← hw6]; exact HT5.out.cls _
  have HST : Hid (Rp w P H A T w6.heap.size zs 270 [] [] [] nilV nilV nilV [] w6) := by
    have hor := HOR.out
    refine ⟨hrd5.later (hoth P (by omega)) (hoth H (by omega)), HTY5.out.same (hoth H (by omega)), ⟨HT6.out, ⟨HT6.out.lt, by have := HAA.out; omega, Nat.le_refl _⟩, World.ownsRow_nil _ _ _ _, fun t r V h1 _ => by simp at h1, fun t t' b V V' h1 => by simp at h1, World.ownsRow_nil _ _ _ _, World.ownsRow_nil _ _ _ _, ⟨fun b hb => by simp [nilV, Value.ownBlock] at hb, fun b hb => by simp [nilV, Value.ownBlock] at hb, fun b hb => by simp [nilV, Value.ownBlock] at hb, fun b hb => by simp [nilV, Value.ownBlock] at hb⟩⟩, HDB5.out.same (hoth A (by omega)), by rw [← hw6]; exact setCells_below T (by have := HAA.out; omega) _ _ HK5.out, ⟨by have := HPP.out; have := HAA.out; omega, by have := HAA.out; omega, by omega⟩⟩
  have HTH : Hid (w5.there T 0 256) := HT5.out.there
  have H270 : Hid (270 ≤ zs.length) := h270
  clear h270 hrd5 hw6 hoth HK5 HTY5 HDB5 HT5 HT6
  go_upto_region 9 with (refine wpList_store_cls rfl (.tmp 33) (.tmp 31) rfl (A := T) (k := 0) HTH.out rfl rfl ?_; rw [HW6.out])
  clear HW6 HTH
  go_step3
  go_wp2_with fail
  go_loopw [38] (fun i u => ∃ (j : Nat) (V1 V2 V3 : Value) (Us : List Value) (Hb : Nat), i = .int .i64 (j : Nat) ∧ j ≤ S ∧ Hid (270 + j * rdL zs ≤ zs.length) ∧ Hid (Rp w P H A T Hb zs (270 + j * rdL zs) ((List.range j).map (rdRow zs)) ((List.range j).map (rdF zs)) ((List.range j).map (rdE zs)) V1 V2 V3 Us u)) (fun i _ => S - (intOf i).toNat)
  case atStart => exact ⟨0, nilV, nilV, nilV, [], _, rfl, Nat.zero_le _, by show _ ≤ _; have := H270.out; omega, by show Rp _ _ _ _ _ _ _ _ _ _ _ _ _ _ _ _; rw [Nat.zero_mul]; exact HST.out⟩
  case round =>
    obtain ⟨j, V1, V2, V3, Us, Hb, rfl, hjS, HJL, HRP⟩ := hrel
    clear HST
    by_cases hlt : j < S
    · have hlt' : (j : Int) < (S : Int) := by omega
      have HNX0 : Hid (zs.length < 270 + (j + 1) * rdL zs → wholeT zs = false) := fun h => by
        apply Classical.byContradiction
        intro hne
        have hw : wholeT zs = true := by simpa using hne
        obtain ⟨_, _, _, p4⟩ := whole_parts hw
        rw [HSS.out] at p4
        have := Nat.mul_le_mul_right (rdL zs) (show j + 1 ≤ S by omega)
        omega
      have HLL : Hid (rdL zs = 8 + 2 * C) := by show _ = _; unfold rdL; rw [HCC.out]
      have HNW : Hid (∀ c, c < C → zs.length < 270 + j * rdL zs + c * 2 + 2 → wholeT zs = false) := fun c hc h => HNX0.out (by have := HLL.out; rw [Nat.succ_mul]; omega)
      go_wp2_with (at_make; refine wpList_make_int rfl _ _ rfl w.heap.size C HRP.out.low.size rfl rfl (by omega) ?_; intro w7 ho7 k7; have HO7 : Hid (w7.ownsRow w.heap.size 3 1 (.slice (some ⟨wr.heap.size, 0, none⟩) C C) C (ints (prow zs j 0))) := (by rw [prow_zero, HCC.out]; exact ho7); have HRP7 : Hid (Rp w P H A T Hb zs (270 + j * rdL zs + 0 * 2) ((List.range j).map (rdRow zs)) ((List.range j).map (rdF zs)) ((List.range j).map (rdE zs)) V1 V2 V3 Us w7) := HRP.out.later k7; clear ho7 k7)
      obtain ⟨NX, hNX⟩ : ∃ NX, wr.heap.size = NX := ⟨_, rfl⟩
      have HNX : Hid (Hb ≤ NX ∧ w.heap.size ≤ NX) := by rw [← hNX]; exact ⟨HRP.out.tm.tH.2.2, HRP.out.low.size⟩
      rw [hNX] at HO7 ⊢
      clear hNX HRP
      go_loopw [44] (fun i u => ∃ c : Nat, i = .int .i64 (c : Nat) ∧ c ≤ C ∧ Hid (270 + j * rdL zs + c * 2 ≤ zs.length) ∧ Hid (Rp w P H A T Hb zs (270 + j * rdL zs + c * 2) ((List.range j).map (rdRow zs)) ((List.range j).map (rdF zs)) ((List.range j).map (rdE zs)) V1 V2 V3 Us u) ∧ Hid (u.ownsRow w.heap.size 3 1 (.slice (some ⟨NX, 0, none⟩) C C) C (ints (prow zs j c)))) (fun i _ => C - (intOf i).toNat)
      case atStart => exact ⟨0, rfl, Nat.zero_le _, by show _ ≤ _; have := HJL.out; omega, HRP7, HO7⟩
      case round =>
        obtain ⟨c, rfl, hcC, HCL, HRC, HOC⟩ := hrel
        clear HRP7 HO7
        by_cases hltc : c < C
        · have hltc' : (c : Int) < (C : Int) := by omega
          by_cases hle : zs.length < 270 + j * rdL zs + c * 2 + 2
          · have HC : Hid (Calls Tryd.prog 37 #[.pointer (some ⟨P, 0, none⟩), .int .i64 2] wr fun e w' => e = .returned (.tuple #[.int .u64 0, .int .i64 20]) ∧ w' = wr) := rnum_short P H _ 2 (zs.drop (270 + j * rdL zs + c * 2)) wr HRC.out.rd (by decide) (by decide) (by rw [List.length_drop]; omega)
            have HF := HNW.out c hltc hle
            have HF : Hid (wholeT zs = false) := HF
            clear hle
            go_wp2_with fail
            refine HC.out.mono ?_
            rintro e w8 ⟨rfl, rfl⟩
            clear HC
            have HRZ : Hid (Rp w P H A T Hb zs (270 + j * rdL zs + c * 2) ((List.range j).map (rdRow zs)) ((List.range j).map (rdF zs)) ((List.range j).map (rdE zs)) V1 V2 V3 Us w8) := HRC
            clear HRC HOC
            go_upto_region 26 with fail
            obtain ⟨a1, c1, e1, l1, m1⟩ := own_f HRZ.out.tm.nx
            rw [List.length_map, List.length_range] at e1
            have HE1 : Hid (V1 = .slice a1 j c1) := e1
            have HAH : Hid (P ≠ A ∧ H ≠ A) := ⟨fun e => by subst e; exact absurd (TyB.ne HRZ.out.rd.ty HRZ.out.res.ty) (by decide), fun e => by subst e; exact absurd (TyB.ne HRZ.out.ht HRZ.out.res.ty) (by decide)⟩
            clear e1 l1 m1
            refine reg26 (A := A) (P := P) (T := T) (j := j) (S := S) (lft := (zs.drop (270 + j * rdL zs + c * 2)).length) (f := rdCl zs) (V2 := V2) (V3 := V3) (a1 := a1) (c1 := c1) rfl rfl rfl rfl rfl rfl rfl (by have h := HRZ.out.tm.db; rw [HE1.out] at h; exact h) HRZ.out.res HRZ.out.ord.2.2 ⟨own_1 HRZ.out.tm.fo, own_1 HRZ.out.tm.en⟩ (fun u hu => rd_left HRZ.out.rd HAH.out.1 HAH.out.2 hu) ?_
            intro a9 hd9 h92 h93
            have HRES : Hid (DB (w8.drew.setRow A (dv (rdCl zs) (.slice a1 j c1) V2 V3)) A (rdCl zs) (.slice a1 j c1) V2 V3) := DB.row (w := w8.drew) HRZ.out.res _ _ _ _
            have HBE : Hid (Below w.heap.size w (w8.drew.setRow A (dv (rdCl zs) (.slice a1 j c1) V2 V3))) := below_row HRZ.out.low.drew (by have := HAA.out; omega) _
            have HONE : Hid ((Value.slice a1 j c1).oneCell' = true ∧ V2.oneCell' = true ∧ V3.oneCell' = true) := ⟨rfl, own_1 HRZ.out.tm.fo, own_1 HRZ.out.tm.en⟩
            go_wp2
            refine post_read (hd9.trans rfl) h92 h93 HRES.out ⟨rdCl zs, .slice a1 j c1, V2, V3, ?_, HONE.out, HBE.out, fun h => by rw [HF.out] at h; cases h⟩
            rw [HF.out, show ((j : Int) == (S : Int)) = false by simp; omega]
            rfl
          · have HC : Hid (Calls Tryd.prog 37 #[.pointer (some ⟨P, 0, none⟩), .int .i64 2] wr fun e w' => e = .returned (.tuple #[.int .u64 (vl zs (270 + j * rdL zs + c * 2) 2 : Nat), .int .i64 0]) ∧ Rd w' P H (270 + j * rdL zs + c * 2 + 2) (zs.drop (270 + j * rdL zs + c * 2 + 2)) ∧ wr.grownBy w' (some P)) := by
              have h := rnum_ok P H _ 2 (zs.drop (270 + j * rdL zs + c * 2)) wr HRC.out.rd (by decide) (by decide) (by rw [List.length_drop]; have := HL.out; omega) (by rw [List.length_drop]; omega) (Rec.bs_drop HB.out _)
              rw [List.drop_drop] at h
              exact h
            have hv := vl_lt HB.out (270 + j * rdL zs + c * 2) 2
            have HPS : Hid ((ints (prow zs j c)).set c (.int .i64 ((vl zs (270 + j * rdL zs + c * 2) 2 : Nat) : Int)) = ints (prow zs j (c + 1))) := prow_set zs j c
            have HCL2 : Hid (270 + j * rdL zs + (c + 1) * 2 ≤ zs.length) := by show _ ≤ _; omega
            obtain ⟨x, hx⟩ : ∃ x, vl zs (270 + j * rdL zs + c * 2) 2 = x := ⟨_, rfl⟩
            rw [hx] at HC hv HPS
            clear hx hle
            go_wp2_with fail
            refine HC.out.mono ?_
            rintro e w8 ⟨rfl, hr8, hg8⟩
            have HR8 : Hid (Rp w P H A T Hb zs (270 + j * rdL zs + c * 2 + 2) ((List.range j).map (rdRow zs)) ((List.range j).map (rdF zs)) ((List.range j).map (rdE zs)) V1 V2 V3 Us w8) := HRC.out.num hr8 hg8
            have ho8 : w8.ownsRow w.heap.size 3 1 (.slice (some ⟨NX, 0, none⟩) C C) C (ints (prow zs j c)) := own_keep HOC.out (fun b hb hty => hg8.block b (own_at HOC.out b hb).2.1 (fun e => by cases e; exact absurd (TyB.ne hty HRC.out.rd.ty) (by decide)))
            obtain ⟨y, hy⟩ : ∃ y, (ints (prow zs j c))[c]? = some y := ⟨_, List.getElem?_eq_getElem (by rw [ints_len, prow_len, HCC.out]; exact hltc)⟩
            obtain ⟨hc8, hf8⟩ := own_cell ho8 hy
            have HO9 : Hid ((w8.setCell ⟨NX, c, none⟩ (.int .i64 (x : Nat))).ownsRow w.heap.size 3 1 (.slice (some ⟨NX, 0, none⟩) C C) C (ints (prow zs j (c + 1)))) := by
              have h := own_put ho8 c (.int .i64 (x : Nat))
              rw [HPS.out] at h
              exact h
            have HR9 : Hid (Rp w P H A T Hb zs (270 + j * rdL zs + (c + 1) * 2) ((List.range j).map (rdRow zs)) ((List.range j).map (rdF zs)) ((List.range j).map (rdE zs)) V1 V2 V3 Us (w8.setCell ⟨NX, c, none⟩ (.int .i64 (x : Nat)))) := by
              have h := HR8.out.other (q := c) (x := .int .i64 (x : Nat)) HNX.out.1 (own_at ho8 NX (by simp [Value.ownBlock])).2.2 HNX.out.2
              rw [show 270 + j * rdL zs + c * 2 + 2 = 270 + j * rdL zs + (c + 1) * 2 by omega] at h
              exact h
            have hx2 : x < 65536 := hv
            clear hr8 hg8 ho8 hy HC HR8 HRC HOC hv
            go_wp2
            go_roundw
            case rel => exact ⟨c + 1, by go_num, by omega, HCL2, HR9, HO9⟩
            case measure => simp [intOf]; omega
        · have hltc' : ¬ (c : Int) < (C : Int) := by omega
          have hcc : c = C := by omega
          have HRL : Hid ((rdRow zs j).length = C) := by show _ = _; rw [rdRow_len, HCC.out]
          have HOX : Hid (wr.ownsRow w.heap.size 3 1 (.slice (some ⟨NX, 0, none⟩) C C) C (ints (rdRow zs j))) := by
            have h := HOC.out
            rw [hcc, ← HCC.out, prow_all, HCC.out] at h
            exact h
          obtain ⟨o, ho⟩ : ∃ o, 270 + j * rdL zs + 2 * rdC zs = o := ⟨_, rfl⟩
          have HOO : Hid (270 + j * rdL zs + 2 * rdC zs = o) := ho
          have HRD : Hid (Rp w P H A T Hb zs o ((List.range j).map (rdRow zs)) ((List.range j).map (rdF zs)) ((List.range j).map (rdE zs)) V1 V2 V3 Us wr) := by
            have h := HRC.out
            rw [hcc, show 270 + j * rdL zs + C * 2 = o by rw [← ho, HCC.out]; omega] at h
            exact h
          have HVF : Hid (vl zs o 4 = rdF zs j) := by show _ = _; unfold rdF; rw [ho]
          have HVE : Hid (vl zs (o + 4) 4 = rdE zs j) := by show _ = _; unfold rdE; rw [ho]
          have HO8 : Hid (o + 8 = 270 + (j + 1) * rdL zs) := by
            show _ = _
            have h1 := HLL.out
            have h2 := HCC.out
            have h3 : (j + 1) * rdL zs = j * rdL zs + rdL zs := Nat.succ_mul _ _
            omega
          clear hcc ho HOC HRC HCL
          by_cases h8 : zs.length < o + 8
          · have HF : Hid (wholeT zs = false) := HNX0.out (by rw [← HO8.out]; exact h8)
            by_cases h4 : zs.length < o + 4
            · have HC : Hid (Calls Tryd.prog 37 #[.pointer (some ⟨P, 0, none⟩), .int .i64 4] wr fun e w' => e = .returned (.tuple #[.int .u64 0, .int .i64 20]) ∧ w' = wr) := rnum_short P H o 4 (zs.drop o) wr HRD.out.rd (by decide) (by decide) (by rw [List.length_drop]; omega)
              clear h8 h4
              go_wp2_with fail
              refine HC.out.mono ?_
              rintro e w8 ⟨rfl, rfl⟩
              go_wp2_with fail
              refine HC.out.mono ?_
              rintro e w9 ⟨rfl, rfl⟩
              have HRZ : Hid (Rp w P H A T Hb zs o ((List.range j).map (rdRow zs)) ((List.range j).map (rdF zs)) ((List.range j).map (rdE zs)) V1 V2 V3 Us w9) := HRD
              clear HC HRD
              go_upto_region 26 with fail
              obtain ⟨a1, c1, e1, l1, m1⟩ := own_f HRZ.out.tm.nx
              rw [List.length_map, List.length_range] at e1
              have HE1 : Hid (V1 = .slice a1 j c1) := e1
              have HAH : Hid (P ≠ A ∧ H ≠ A) := ⟨fun e => by subst e; exact absurd (TyB.ne HRZ.out.rd.ty HRZ.out.res.ty) (by decide), fun e => by subst e; exact absurd (TyB.ne HRZ.out.ht HRZ.out.res.ty) (by decide)⟩
              clear e1 l1 m1
              refine reg26 (A := A) (P := P) (T := T) (j := j) (S := S) (lft := (zs.drop (o)).length) (f := rdCl zs) (V2 := V2) (V3 := V3) (a1 := a1) (c1 := c1) rfl rfl rfl rfl rfl rfl rfl (by have h := HRZ.out.tm.db; rw [HE1.out] at h; exact h) HRZ.out.res HRZ.out.ord.2.2 ⟨own_1 HRZ.out.tm.fo, own_1 HRZ.out.tm.en⟩ (fun u hu => rd_left HRZ.out.rd HAH.out.1 HAH.out.2 hu) ?_
              intro a9 hd9 h92 h93
              have HRES : Hid (DB (w9.drew.setRow A (dv (rdCl zs) (.slice a1 j c1) V2 V3)) A (rdCl zs) (.slice a1 j c1) V2 V3) := DB.row (w := w9.drew) HRZ.out.res _ _ _ _
              have HBE : Hid (Below w.heap.size w (w9.drew.setRow A (dv (rdCl zs) (.slice a1 j c1) V2 V3))) := below_row HRZ.out.low.drew (by have := HAA.out; omega) _
              have HONE : Hid ((Value.slice a1 j c1).oneCell' = true ∧ V2.oneCell' = true ∧ V3.oneCell' = true) := ⟨rfl, own_1 HRZ.out.tm.fo, own_1 HRZ.out.tm.en⟩
              go_wp2
              refine post_read (hd9.trans rfl) h92 h93 HRES.out ⟨rdCl zs, .slice a1 j c1, V2, V3, ?_, HONE.out, HBE.out, fun h => by rw [HF.out] at h; cases h⟩
              rw [HF.out, show ((j : Int) == (S : Int)) = false by simp; omega]
              rfl
            · have HC : Hid (Calls Tryd.prog 37 #[.pointer (some ⟨P, 0, none⟩), .int .i64 4] wr fun e w' => e = .returned (.tuple #[.int .u64 (vl zs o 4 : Nat), .int .i64 0]) ∧ Rd w' P H (o + 4) (zs.drop (o + 4)) ∧ wr.grownBy w' (some P)) := by
                have h := rnum_ok P H o 4 (zs.drop o) wr HRD.out.rd (by decide) (by decide) (by rw [List.length_drop]; have := HL.out; omega) (by rw [List.length_drop]; omega) (Rec.bs_drop HB.out _)
                rw [List.drop_drop] at h
                exact h
              have H8 : Hid (zs.length < o + 8) := h8
              clear h8 h4
              go_wp2_with fail
              refine HC.out.mono ?_
              rintro e w8 ⟨rfl, hr8, hg8⟩
              have HR8 : Hid (Rp w P H A T Hb zs (o + 4) ((List.range j).map (rdRow zs)) ((List.range j).map (rdF zs)) ((List.range j).map (rdE zs)) V1 V2 V3 Us w8) := HRD.out.num hr8 hg8
              clear HC HRD hr8 hg8
              have HC : Hid (Calls Tryd.prog 37 #[.pointer (some ⟨P, 0, none⟩), .int .i64 4] w8 fun e w' => e = .returned (.tuple #[.int .u64 0, .int .i64 20]) ∧ w' = w8) := rnum_short P H (o + 4) 4 (zs.drop (o + 4)) w8 HR8.out.rd (by decide) (by decide) (by rw [List.length_drop]; have := H8.out; omega)
              go_wp2_with fail
              refine HC.out.mono ?_
              rintro e w9 ⟨rfl, rfl⟩
              have HRZ : Hid (Rp w P H A T Hb zs (o + 4) ((List.range j).map (rdRow zs)) ((List.range j).map (rdF zs)) ((List.range j).map (rdE zs)) V1 V2 V3 Us w9) := HR8
              clear HC HR8
              go_upto_region 26 with fail
              obtain ⟨a1, c1, e1, l1, m1⟩ := own_f HRZ.out.tm.nx
              rw [List.length_map, List.length_range] at e1
              have HE1 : Hid (V1 = .slice a1 j c1) := e1
              have HAH : Hid (P ≠ A ∧ H ≠ A) := ⟨fun e => by subst e; exact absurd (TyB.ne HRZ.out.rd.ty HRZ.out.res.ty) (by decide), fun e => by subst e; exact absurd (TyB.ne HRZ.out.ht HRZ.out.res.ty) (by decide)⟩
              clear e1 l1 m1
              refine reg26 (A := A) (P := P) (T := T) (j := j) (S := S) (lft := (zs.drop (o + 4)).length) (f := rdCl zs) (V2 := V2) (V3 := V3) (a1 := a1) (c1 := c1) rfl rfl rfl rfl rfl rfl rfl (by have h := HRZ.out.tm.db; rw [HE1.out] at h; exact h) HRZ.out.res HRZ.out.ord.2.2 ⟨own_1 HRZ.out.tm.fo, own_1 HRZ.out.tm.en⟩ (fun u hu => rd_left HRZ.out.rd HAH.out.1 HAH.out.2 hu) ?_
              intro a9 hd9 h92 h93
              have HRES : Hid (DB (w9.drew.setRow A (dv (rdCl zs) (.slice a1 j c1) V2 V3)) A (rdCl zs) (.slice a1 j c1) V2 V3) := DB.row (w := w9.drew) HRZ.out.res _ _ _ _
              have HBE : Hid (Below w.heap.size w (w9.drew.setRow A (dv (rdCl zs) (.slice a1 j c1) V2 V3))) := below_row HRZ.out.low.drew (by have := HAA.out; omega) _
              have HONE : Hid ((Value.slice a1 j c1).oneCell' = true ∧ V2.oneCell' = true ∧ V3.oneCell' = true) := ⟨rfl, own_1 HRZ.out.tm.fo, own_1 HRZ.out.tm.en⟩
              go_wp2
              refine post_read (hd9.trans rfl) h92 h93 HRES.out ⟨rdCl zs, .slice a1 j c1, V2, V3, ?_, HONE.out, HBE.out, fun h => by rw [HF.out] at h; cases h⟩
              rw [HF.out, show ((j : Int) == (S : Int)) = false by simp; omega]
              rfl
          · have HC : Hid (Calls Tryd.prog 37 #[.pointer (some ⟨P, 0, none⟩), .int .i64 4] wr fun e w' => e = .returned (.tuple #[.int .u64 (rdF zs j : Nat), .int .i64 0]) ∧ Rd w' P H (o + 4) (zs.drop (o + 4)) ∧ wr.grownBy w' (some P)) := by
              have h := rnum_ok P H o 4 (zs.drop o) wr HRD.out.rd (by decide) (by decide) (by rw [List.length_drop]; have := HL.out; omega) (by rw [List.length_drop]; omega) (Rec.bs_drop HB.out _)
              rw [List.drop_drop, ← HVF.out] at *
              exact h
            have H8 : Hid (o + 8 ≤ zs.length) := by show _ ≤ _; omega
            have hF4 : rdF zs j < 4294967296 := by have := vl_lt HB.out o 4; rw [Rec.pow4, HVF.out] at this; exact this
            have hE4 : rdE zs j < 4294967296 := by have := vl_lt HB.out (o + 4) 4; rw [Rec.pow4, HVE.out] at this; exact this
            obtain ⟨xF, hxF⟩ : ∃ x, rdF zs j = x := ⟨_, rfl⟩
            obtain ⟨xE, hxE⟩ : ∃ x, rdE zs j = x := ⟨_, rfl⟩
            have HXF : Hid (rdF zs j = xF) := hxF
            have HXE : Hid (rdE zs j = xE) := hxE
            rw [hxF] at HC hF4
            rw [hxE] at HVE hE4
            clear h8 hxF hxE HVF
            go_wp2_with fail
            refine HC.out.mono ?_
            rintro e w8 ⟨rfl, hr8, hg8⟩
            have HR8 : Hid (Rp w P H A T Hb zs (o + 4) ((List.range j).map (rdRow zs)) ((List.range j).map (rdF zs)) ((List.range j).map (rdE zs)) V1 V2 V3 Us w8) := HRD.out.num hr8 hg8
            have HO8' : Hid (w8.ownsRow w.heap.size 3 1 (.slice (some ⟨NX, 0, none⟩) C C) C (ints (rdRow zs j))) := own_keep HOX.out (fun b hb hty => hg8.block b (own_at HOX.out b hb).2.1 (fun e => by cases e; exact absurd (TyB.ne hty HRD.out.rd.ty) (by decide)))
            clear HC HRD hr8 hg8 HOX
            have HC : Hid (Calls Tryd.prog 37 #[.pointer (some ⟨P, 0, none⟩), .int .i64 4] w8 fun e w' => e = .returned (.tuple #[.int .u64 (xE : Nat), .int .i64 0]) ∧ Rd w' P H (o + 4 + 4) (zs.drop (o + 4 + 4)) ∧ w8.grownBy w' (some P)) := by
              have h := rnum_ok P H (o + 4) 4 (zs.drop (o + 4)) w8 HR8.out.rd (by decide) (by decide) (by rw [List.length_drop]; have := HL.out; omega) (by rw [List.length_drop]; have := H8.out; omega) (Rec.bs_drop HB.out _)
              have e : Rec.val ((zs.drop (o + 4)).take 4) = xE := HVE.out
              rw [List.drop_drop, e] at h
              exact h
            go_wp2_with fail
            refine HC.out.mono ?_
            rintro e w9 ⟨rfl, hr9, hg9⟩
            have HR9 : Hid (Rp w P H A T Hb zs (270 + (j + 1) * rdL zs) ((List.range j).map (rdRow zs)) ((List.range j).map (rdF zs)) ((List.range j).map (rdE zs)) V1 V2 V3 Us w9) := by
              have h := HR8.out.num hr9 hg9
              rw [show o + 4 + 4 = 270 + (j + 1) * rdL zs by have := HO8.out; omega] at h
              exact h
            have HO9 : Hid (w9.ownsRow w.heap.size 3 1 (.slice (some ⟨NX, 0, none⟩) C C) C (ints (rdRow zs j))) := own_keep HO8'.out (fun b hb hty => hg9.block b (own_at HO8'.out b hb).2.1 (fun e => by cases e; exact absurd (TyB.ne hty HR8.out.rd.ty) (by decide)))
            clear HC HR8 hr9 hg9 HO8' HVE
            have HJN : Hid (((List.range j).map (rdRow zs)).length = j ∧ ((List.range j).map (rdF zs)).length = j ∧ ((List.range j).map (rdE zs)).length = j) := ⟨by simp, by simp, by simp⟩
            have q1 := HR9.out.tm.db.hi.1
            obtain ⟨a1, c1, e1, l1, m1⟩ := own_f HR9.out.tm.nx
            have HE1 : Hid (V1 = .slice a1 ((List.range j).map (rdRow zs)).length c1) := e1
            rw [e1, HJN.out.1] at q1
            clear e1 l1 m1
            go_upto_region 23 with (at_builtin; refine wpList_append_lat rfl (.tmp 73) (.tmp 75) rfl (.slice none 0 0) 24 Tryd.underlying23 infR rfl w.heap.size V1 ((List.range j).map (rdRow zs)).length Us (by rw [HE1.out, HJN.out.1]; rfl) ((HR9.out.later ((Below.refl _ _).alloc (Nat.le_refl _) _)).tm.nx) _ [.slice (some ⟨NX, 0, none⟩) C C] rfl (lat_lit _ _ _ _) (fun u hu => by simp at hu; subst hu; rfl) (by rw [HJN.out.1]; simp only [maxLen, List.length_singleton]; omega) (by rw [HJN.out.1]; simp only [List.length_singleton]; omega) (by have := HR9.out.low.size; simp; omega) ?_; intro V1' w10 ho10 hg10 _ _; have HR10 : Hid (Rp w P H A T w10.heap.size zs (270 + (j + 1) * rdL zs) ((List.range (j + 1)).map (rdRow zs)) ((List.range j).map (rdF zs)) ((List.range j).map (rdE zs)) V1' V2 V3 (Us ++ [.slice (some ⟨NX, 0, none⟩) C C]) (w10.setCell ⟨T, 256, none⟩ V1')) := (by have h := HR9.out.next (r := rdRow zs j) (b := NX) HNX.out.1 (by rw [HRL.out]; exact HO9.out) ((Below.refl _ _).alloc (Nat.le_refl _) _) (by rw [HRL.out]; exact ho10) hg10; rw [HRL.out, ← map_succ] at h; exact h); have hc10 : w10.cell? ⟨T, 256, none⟩ = some V1 ∧ w10.frozen? ⟨T, 256, none⟩ = false := (by have h := HR9.out.side (q := 256) (x := V1') HR9.out.tm.nx ((Below.refl _ _).alloc (Nat.le_refl _) _) hg10; have hdb : DB w10 T (rdCl zs) V1 V2 V3 := HR9.out.tm.db.same ((hg10.block T (by have := HR9.out.tm.db.lt; simp; omega) (fun e => absurd (TyB.ne HR9.out.tm.db.ty (own_at HR9.out.tm.nx T e.symm).2.2) (by decide))).trans (Below.heap_alloc w9 _ T HR9.out.tm.db.lt)); exact ⟨hdb.hi.1, hdb.frozen _⟩); obtain ⟨hca, hcb⟩ := hc10; rw [HE1.out, HJN.out.1] at hca; obtain ⟨x1, y1, e10, -, -⟩ := own_f ho10; subst e10; obtain ⟨L10, hL10⟩ : ∃ L, ((List.range j).map (rdRow zs)).length + [Value.slice (some ⟨NX, 0, none⟩) C C].length = L := ⟨_, rfl⟩; rw [hL10] at HR10 ⊢; clear ho10 hg10 hL10 HR9 q1 HO9)
            obtain ⟨w11, hw11⟩ : ∃ w11, w10.setCell ⟨T, 256, none⟩ (.slice x1 L10 y1) = w11 := ⟨_, rfl⟩
            rw [hw11] at HR10 ⊢
            clear hw11 hca hcb
            obtain ⟨W1, hW1⟩ : ∃ W1, Value.slice x1 L10 y1 = W1 := ⟨_, rfl⟩
            rw [hW1] at HR10
            clear hW1
            have q2 := HR10.out.tm.db.hi.2.1
            obtain ⟨a2, c2, e2, l2, m2⟩ := own_f HR10.out.tm.fo
            have HE2 : Hid (V2 = .slice a2 ((List.range j).map (rdF zs)).length c2) := e2
            rw [e2, HJN.out.2.1] at q2
            clear e2 l2 m2
            have hmF : (xF : Int) % 4294967296 = (xF : Int) := by omega
            go_upto_region 24 with (at_builtin; refine wpList_append_lat rfl (.tmp 79) (.tmp 82) rfl (.int .u32 0) 4 Tryd.underlying24 infU rfl w.heap.size V2 ((List.range j).map (rdF zs)).length (u32s ((List.range j).map (rdF zs))) (by rw [HE2.out, HJN.out.2.1]; rfl) ((HR10.out.later ((Below.refl _ _).alloc (Nat.le_refl _) _)).tm.fo) _ [.int .u32 (xF : Nat)] rfl (lat_lit _ _ _ _) (fun u hu => by simp at hu; subst hu; rfl) (by rw [HJN.out.2.1]; simp only [maxLen, List.length_singleton]; omega) (by rw [HJN.out.2.1]; simp only [List.length_singleton]; omega) (by have := HR10.out.low.size; simp; omega) ?_; intro V2' w12 ho12 hg12 _ hh12; have HR12 : Hid (Rp w P H A T w12.heap.size zs (270 + (j + 1) * rdL zs) ((List.range (j + 1)).map (rdRow zs)) ((List.range (j + 1)).map (rdF zs)) ((List.range j).map (rdE zs)) W1 V2' V3 (Us ++ [.slice (some ⟨NX, 0, none⟩) C C]) (w12.setCell ⟨T, 257, none⟩ V2')) := (by have h := HR10.out.found (x := rdF zs j) ((Below.refl _ _).alloc (Nat.le_refl _) _) (by rw [← u32_snoc, HXF.out]; exact ho12) hg12 hh12; rw [← map_succ] at h; exact h); have hc12 : w12.cell? ⟨T, 257, none⟩ = some V2 ∧ w12.frozen? ⟨T, 257, none⟩ = false := (by have hdb : DB w12 T (rdCl zs) W1 V2 V3 := HR10.out.tm.db.same ((hg12.block T (by have := HR10.out.tm.db.lt; simp; omega) (fun e => absurd (TyB.ne HR10.out.tm.db.ty (own_at HR10.out.tm.fo T e.symm).2.2) (by decide))).trans (Below.heap_alloc w11 _ T HR10.out.tm.db.lt)); exact ⟨hdb.hi.2.1, hdb.frozen _⟩); obtain ⟨hca, hcb⟩ := hc12; rw [HE2.out, HJN.out.2.1] at hca; obtain ⟨x2, y2, e12, -, -⟩ := own_f ho12; subst e12; obtain ⟨L12, hL12⟩ : ∃ L, ((List.range j).map (rdF zs)).length + [Value.int .u32 (xF : Nat)].length = L := ⟨_, rfl⟩; rw [hL12] at HR12 ⊢; clear ho12 hg12 hL12 HR10 q2 hh12)
            obtain ⟨w13, hw13⟩ : ∃ w13, w12.setCell ⟨T, 257, none⟩ (.slice x2 L12 y2) = w13 := ⟨_, rfl⟩
            rw [hw13] at HR12 ⊢
            clear hw13 hca hcb
            obtain ⟨W2, hW2⟩ : ∃ W2, Value.slice x2 L12 y2 = W2 := ⟨_, rfl⟩
            rw [hW2] at HR12
            clear hW2
            have q3 := HR12.out.tm.db.hi.2.2
            obtain ⟨a3, c3, e3, l3, m3⟩ := own_f HR12.out.tm.en
            have HE3 : Hid (V3 = .slice a3 ((List.range j).map (rdE zs)).length c3) := e3
            rw [e3, HJN.out.2.2] at q3
            clear e3 l3 m3
            have hmE : (xE : Int) % 4294967296 = (xE : Int) := by omega
            go_upto_region 25 with (at_builtin; refine wpList_append_lat rfl (.tmp 86) (.tmp 89) rfl (.int .u32 0) 4 Tryd.underlying24 infU rfl w.heap.size V3 ((List.range j).map (rdE zs)).length (u32s ((List.range j).map (rdE zs))) (by rw [HE3.out, HJN.out.2.2]; rfl) ((HR12.out.later ((Below.refl _ _).alloc (Nat.le_refl _) _)).tm.en) _ [.int .u32 (xE : Nat)] rfl (lat_lit _ _ _ _) (fun u hu => by simp at hu; subst hu; rfl) (by rw [HJN.out.2.2]; simp only [maxLen, List.length_singleton]; omega) (by rw [HJN.out.2.2]; simp only [List.length_singleton]; omega) (by have := HR12.out.low.size; simp; omega) ?_; intro V3' w14 ho14 hg14 _ hh14; have HR14 : Hid (Rp w P H A T w14.heap.size zs (270 + (j + 1) * rdL zs) ((List.range (j + 1)).map (rdRow zs)) ((List.range (j + 1)).map (rdF zs)) ((List.range (j + 1)).map (rdE zs)) W1 W2 V3' (Us ++ [.slice (some ⟨NX, 0, none⟩) C C]) (w14.setCell ⟨T, 258, none⟩ V3')) := (by have h := HR12.out.ends (x := rdE zs j) ((Below.refl _ _).alloc (Nat.le_refl _) _) (by rw [← u32_snoc, HXE.out]; exact ho14) hg14 hh14; rw [← map_succ] at h; exact h); have hc14 : w14.cell? ⟨T, 258, none⟩ = some V3 ∧ w14.frozen? ⟨T, 258, none⟩ = false := (by have hdb : DB w14 T (rdCl zs) W1 W2 V3 := HR12.out.tm.db.same ((hg14.block T (by have := HR12.out.tm.db.lt; simp; omega) (fun e => absurd (TyB.ne HR12.out.tm.db.ty (own_at HR12.out.tm.en T e.symm).2.2) (by decide))).trans (Below.heap_alloc w13 _ T HR12.out.tm.db.lt)); exact ⟨hdb.hi.2.2, hdb.frozen _⟩); obtain ⟨hca, hcb⟩ := hc14; rw [HE3.out, HJN.out.2.2] at hca; obtain ⟨x3, y3, e14, -, -⟩ := own_f ho14; subst e14; obtain ⟨L14, hL14⟩ : ∃ L, ((List.range j).map (rdE zs)).length + [Value.int .u32 (xE : Nat)].length = L := ⟨_, rfl⟩; rw [hL14] at HR14 ⊢; clear ho14 hg14 hL14 HR12 q3 hh14)
            obtain ⟨w15, hw15⟩ : ∃ w15, w14.setCell ⟨T, 258, none⟩ (.slice x3 L14 y3) = w15 := ⟨_, rfl⟩
            rw [hw15] at HR14 ⊢
            clear hw15 hca hcb
            obtain ⟨W3, hW3⟩ : ∃ W3, Value.slice x3 L14 y3 = W3 := ⟨_, rfl⟩
            rw [hW3] at HR14
            clear hW3
            have HJL2 : Hid (270 + (j + 1) * rdL zs ≤ zs.length) := by show _ ≤ _; rw [← HO8.out]; exact H8.out
            go_wp2
            go_roundw
            case rel => exact ⟨j + 1, W1, W2, W3, _, _, by go_num, by omega, HJL2, HR14⟩
            case measure => simp [intOf]; omega
    · have hlt' : ¬ (j : Int) < (S : Int) := by omega
      have hje : j = S := by omega
      have HRZ : Hid (Rp w P H A T Hb zs (270 + j * rdL zs) ((List.range j).map (rdRow zs)) ((List.range j).map (rdF zs)) ((List.range j).map (rdE zs)) V1 V2 V3 Us wr) := HRP
      have HJS : Hid (j = S) := hje
      clear HRP hje
      go_upto_region 26 with fail
      obtain ⟨a1, c1, e1, l1, m1⟩ := own_f HRZ.out.tm.nx
      rw [List.length_map, List.length_range] at e1
      have HE1 : Hid (V1 = .slice a1 j c1) := e1
      have HAH : Hid (P ≠ A ∧ H ≠ A) := ⟨fun e => by subst e; exact absurd (TyB.ne HRZ.out.rd.ty HRZ.out.res.ty) (by decide), fun e => by subst e; exact absurd (TyB.ne HRZ.out.ht HRZ.out.res.ty) (by decide)⟩
      clear e1 l1 m1
      refine reg26 (A := A) (P := P) (T := T) (j := j) (S := S) (lft := (zs.drop (270 + j * rdL zs)).length) (f := rdCl zs) (V2 := V2) (V3 := V3) (a1 := a1) (c1 := c1) rfl rfl rfl rfl rfl rfl rfl (by have h := HRZ.out.tm.db; rw [HE1.out] at h; exact h) HRZ.out.res HRZ.out.ord.2.2 ⟨own_1 HRZ.out.tm.fo, own_1 HRZ.out.tm.en⟩ (fun u hu => rd_left HRZ.out.rd HAH.out.1 HAH.out.2 hu) ?_
      intro a9 hd9 h92 h93
      have HRES : Hid (DB (wr.drew.setRow A (dv (rdCl zs) (.slice a1 j c1) V2 V3)) A (rdCl zs) (.slice a1 j c1) V2 V3) := DB.row (w := wr.drew) HRZ.out.res _ _ _ _
      have HBE : Hid (Below w.heap.size w (wr.drew.setRow A (dv (rdCl zs) (.slice a1 j c1) V2 V3))) := below_row HRZ.out.low.drew (by have := HAA.out; omega) _
      have HONE : Hid ((Value.slice a1 j c1).oneCell' = true ∧ V2.oneCell' = true ∧ V3.oneCell' = true) := ⟨rfl, own_1 HRZ.out.tm.fo, own_1 HRZ.out.tm.en⟩
      have HTM : Hid (Tm w.heap.size Hb T (rdCl zs) (rdT zs).nx (rdT zs).fo (rdT zs).en (.slice a1 j c1) V2 V3 Us (wr.drew.setRow A (dv (rdCl zs) (.slice a1 j c1) V2 V3))) := by
        have h := HRZ.out.tm
        rw [HE1.out] at h
        have h2 := h.keep (v := wr.drew.setRow A (dv (rdCl zs) (.slice a1 j c1) V2 V3)) (by rw [size_row]; exact Nat.le_refl _) (fun b t hb ht hne hd => by
          have hbA : b ≠ A := fun e => by
            subst e
            exact HRZ.out.ord.2.2 (hd (TyB.ne ht HRZ.out.res.ty))
          exact heap_row _ _ _ _ hbA)
        have e : j = rdS zs := by rw [HSS.out]; exact HJS.out
        unfold rdT
        simp only
        rw [← e]
        exact h2
      have HW : Hid (wholeT zs = (((zs.drop (270 + j * rdL zs)).length : Int) == 0)) := by
        show _ = _
        unfold wholeT
        rw [HSZ.out.2.2.2, HSS.out, HCC.out, decide_eq_true (show S ≤ 4096 ∧ C ≤ 256 from ⟨HSZ.out.2.1, HSZ.out.2.2.1⟩), Bool.eq_iff_iff]
        have hjl := HJL.out
        have hjs := HJS.out
        rw [hjs] at hjl ⊢
        simp
        omega
      go_wp2
      refine post_read (hd9.trans rfl) h92 h93 HRES.out ⟨rdCl zs, .slice a1 j c1, V2, V3, ?_, HONE.out, HBE.out, fun _ => ⟨rfl, Us, Hb, T, HTM.out⟩⟩
      rw [HW.out, show ((j : Int) == (S : Int)) = true by have := HJS.out; simp [this]]
      rfl
end Go.Proofs.YtdngileimmgdnaaDoor
