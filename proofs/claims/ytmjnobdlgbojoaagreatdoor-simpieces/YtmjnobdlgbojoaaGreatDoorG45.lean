
import Derived.Test.YtmjnobdlgbojoaaGreatDoorG19
import Derived.Test.YtmjnobdlgbojoaaGreatDoorG42
import Derived.Test.YtmjnobdlgbojoaaGreatDoorG44
import Derived.Test.YtmjnobdlgbojoaaGreatDoorG36
import Derived.Test.YtmjnobdlgbojoaaGreatDoorG38
import Derived.Test.YtmjnobdlgbojoaaGreatDoorG40
import Derived.Test.YtmjnobdlgbojoaaGreatDoorG31
namespace Go.Proofs.YtmjnobdlgbojoaaGreatDoor
open Go.RowKit
attribute [local go_sem ↓] Go.wp_at_zero Go.wp_at_succ
theorem res_pbuild {tmps : Array Value} {w : World} {R : Nat} {y : Nf} {v5 : Value} (h4 : tmps[4]?.getD undef = .pointer (some ⟨R, 0, none⟩)) (h5 : tmps[5]?.getD undef = v5) (hR : NFB w R y) : (results Tryz.f6 tmps).run Tryz.prog w = .ok (.tuple #[y.val, v5]) w := by
  obtain ⟨t0, t1, t2⟩ := hR.cells
  unfold Nf.val
  simp [results, Tryz.results6, go_sem, h4, h5, t0, t1, t2]
theorem post_pbuild {Q : Ending → World → Prop} {a : Act} {w : World} {R : Nat} {y : Nf} {v5 : Value} (hd : a.defers = []) (h4 : a.tmps[4]?.getD undef = .pointer (some ⟨R, 0, none⟩)) (h5 : a.tmps[5]?.getD undef = v5) (hR : NFB w R y) (hQ : Q (.returned (.tuple #[y.val, v5])) w) : bodyPost Tryz.prog Tryz.f6 Q .ret a w :=
  bodyPost_ret (res_pbuild h4 h5 hR) hd hQ
theorem RowE.low {w : World} {base b : Nat} {V : Value} {es : List Eg} (h : RowE w base V es) (hb : b ≤ base) : RowE w b V es := by
  refine ⟨h.1, ?_⟩
  rcases h.2 with h6 | ⟨g, cap, cur, hv, hBg, rest⟩
  · exact Or.inl h6
  · exact Or.inr ⟨g, cap, cur, hv, Nat.le_trans hb hBg, rest⟩
theorem ways_any (w : World) : Calls Tryz.prog 20 #[] w fun e w' => e = .returned (.slice (some ⟨w.heap.size, 0, none⟩) 8 8) ∧ w' = w.alloc (.cells #[.nilFunc, .func (.func 42) #[] #[], .func (.func 43) #[] #[], .func (.func 44) #[] #[], .func (.func 45) #[] #[], .func (.func 46) #[] #[], .func (.func 47) #[] #[], .func (.func 48) #[] #[]] 97) := by
  go_enter Tryz.func20, Tryz.ntmps20
  go_wp2
  go_ret
  exact ⟨rfl, rfl⟩
set_option maxRecDepth 4000 in
set_option maxHeartbeats 16000000 in
theorem pbuild_any {t : Tn} {x : Nd} (w : World) (h : InAt w t x) (rule : Int) : Calls Tryz.prog 6 #[x.val, .int .i64 rule] w (BuildPost w t rule) := by
  have kk : Below w.heap.size w ((w.alloc (.cells #[.int .i64 x.k, .int .u64 (Oct.word x.s 0 : Nat), .int .u64 (Oct.word x.s 1 : Nat), .int .u64 (Oct.word x.s 2 : Nat), .int .u64 (Oct.word x.s 3 : Nat), .slice x.a x.n x.c, .int .i64 x.mn, .int .i64 x.mx] 30)).alloc (.cells #[.int .i64 0, .slice none 0 0, .slice none 0 0] 37)) := ((Below.refl _ _).alloc (Nat.le_refl _) _).alloc (by simp) _
  have HNB : Hid (NB ((w.alloc (.cells #[.int .i64 x.k, .int .u64 (Oct.word x.s 0 : Nat), .int .u64 (Oct.word x.s 1 : Nat), .int .u64 (Oct.word x.s 2 : Nat), .int .u64 (Oct.word x.s 3 : Nat), .slice x.a x.n x.c, .int .i64 x.mn, .int .i64 x.mx] 30)).alloc (.cells #[.int .i64 0, .slice none 0 0, .slice none 0 0] 37)) w.heap.size x) := (nb_new w x).later ((Below.refl _ _).alloc (Nat.le_refl _) _)
  have HRB : Hid (NFB ((w.alloc (.cells #[.int .i64 x.k, .int .u64 (Oct.word x.s 0 : Nat), .int .u64 (Oct.word x.s 1 : Nat), .int .u64 (Oct.word x.s 2 : Nat), .int .u64 (Oct.word x.s 3 : Nat), .slice x.a x.n x.c, .int .i64 x.mn, .int .i64 x.mx] 30)).alloc (.cells #[.int .i64 0, .slice none 0 0, .slice none 0 0] 37)) (w.heap.size + 1) ⟨0, none, 0, 0, none, 0, 0⟩) := by
    have h1 := nfb_new (w.alloc (.cells #[.int .i64 x.k, .int .u64 (Oct.word x.s 0 : Nat), .int .u64 (Oct.word x.s 1 : Nat), .int .u64 (Oct.word x.s 2 : Nat), .int .u64 (Oct.word x.s 3 : Nat), .slice x.a x.n x.c, .int .i64 x.mn, .int .i64 x.mx] 30)) ⟨0, none, 0, 0, none, 0, 0⟩
    rw [show (w.alloc (.cells #[.int .i64 x.k, .int .u64 (Oct.word x.s 0 : Nat), .int .u64 (Oct.word x.s 1 : Nat), .int .u64 (Oct.word x.s 2 : Nat), .int .u64 (Oct.word x.s 3 : Nat), .slice x.a x.n x.c, .int .i64 x.mn, .int .i64 x.mx] 30)).heap.size = w.heap.size + 1 by simp] at h1
    exact h1
  have HB : Hid (Below w.heap.size w ((w.alloc (.cells #[.int .i64 x.k, .int .u64 (Oct.word x.s 0 : Nat), .int .u64 (Oct.word x.s 1 : Nat), .int .u64 (Oct.word x.s 2 : Nat), .int .u64 (Oct.word x.s 3 : Nat), .slice x.a x.n x.c, .int .i64 x.mn, .int .i64 x.mx] 30)).alloc (.cells #[.int .i64 0, .slice none 0 0, .slice none 0 0] 37))) := kk
  obtain ⟨w2, hw2⟩ : ∃ w2, (w.alloc (.cells #[.int .i64 x.k, .int .u64 (Oct.word x.s 0 : Nat), .int .u64 (Oct.word x.s 1 : Nat), .int .u64 (Oct.word x.s 2 : Nat), .int .u64 (Oct.word x.s 3 : Nat), .slice x.a x.n x.c, .int .i64 x.mn, .int .i64 x.mx] 30)).alloc (.cells #[.int .i64 0, .slice none 0 0, .slice none 0 0] 37) = w2 := ⟨_, rfl⟩
  rw [hw2] at HNB HRB HB
  obtain ⟨A, hA⟩ : ∃ A, w.heap.size = A := ⟨_, rfl⟩
  obtain ⟨R, hR⟩ : ∃ R, w.heap.size + 1 = R := ⟨_, rfl⟩
  rw [hA] at HNB
  rw [hR] at HRB
  have HW2 : Hid ((w.alloc (.cells #[.int .i64 x.k, .int .u64 (Oct.word x.s 0 : Nat), .int .u64 (Oct.word x.s 1 : Nat), .int .u64 (Oct.word x.s 2 : Nat), .int .u64 (Oct.word x.s 3 : Nat), .slice x.a x.n x.c, .int .i64 x.mn, .int .i64 x.mx] 30)).alloc (.cells #[.int .i64 0, .slice none 0 0, .slice none 0 0] 37) = w2) := hw2
  have HAA : Hid (w.heap.size = A) := hA
  have HRR : Hid (w.heap.size + 1 = R) := hR
  have HRR2 : Hid (w.heap.size ≤ R) := by show _ ≤ _; omega
  have HIN : Hid (InAt w t x) := h
  clear hw2 hA hR kk h
  have HRS : Hid (∀ u : World, InAt u t x → Calls Tryz.prog 19 #[x.val] u fun e w' => e = .returned (.int .i64 (placesOf t : Nat)) ∧ Below u.heap.size u w') := fun u hu => Places_any u hu
  obtain ⟨y0, y1, y2, y3, y4, y5, y6, y7⟩ := HNB.out.cells
  have HCP : Hid (Calls Tryz.prog 19 #[x.val] w2 _) := HRS.out w2 (HIN.out.later HB.out)
  obtain ⟨P, hP⟩ : ∃ P, placesOf t = P := ⟨_, rfl⟩
  rw [hP] at HCP
  have HPP : Hid (placesOf t = P) := hP
  clear hP HRS
  unfold Nd.val at HCP
  unfold Nd.val
  go_enter Tryz.func6, Tryz.ntmps6
  go_upto_region 1 with fail
  rw [HW2.out, HRR.out, HAA.out]
  clear HW2
  go_wp2_with fail
  refine HCP.out.mono ?_
  rintro e w4 ⟨rfl, k4⟩
  have HB4 : Hid (Below w.heap.size w w4) := below_step HB.out k4
  have HN4 : Hid (NB w4 A x) := HNB.out.later k4
  have HR4 : Hid (NFB w4 R ⟨0, none, 0, 0, none, 0, 0⟩) := HRB.out.later k4
  clear k4 HB HNB HRB HCP y0 y1 y2 y3 y4 y5 y6 y7
  obtain ⟨z0, z1, z2⟩ := HR4.out.cells
  simp only at z0 z1 z2
  have q0 := HR4.out.frozen 0
  have q1 := HR4.out.frozen 1
  have q2 := HR4.out.frozen 2
  obtain ⟨V, hV⟩ : ∃ V, (plc t).2 = V := ⟨_, rfl⟩
  cases V with
  | false =>
    have hP0 : P = 0 := by rw [← HPP.out]; unfold placesOf; rw [hV]; rfl
    have HF : Hid (BuildPost w t rule (.returned (.tuple #[Nf.val ⟨0, none, 0, 0, none, 0, 0⟩, .int .i64 ((50 : Nat) : Nat)])) (put3 w4 R ⟨0, none, 0, 0, none, 0, 0⟩)) := build_no HB4.out HRR2.out (by unfold buildOf; rw [if_pos hV])
    have HG : Hid (NFB (put3 w4 R ⟨0, none, 0, 0, none, 0, 0⟩) R ⟨0, none, 0, 0, none, 0, 0⟩) := HR4.out.put3 _
    unfold put3 at HF HG
    simp only at HF HG
    subst hP0
    go_wp2
    exact post_pbuild (y := ⟨0, none, 0, 0, none, 0, 0⟩) rfl rfl rfl HG.out HF.out
  | true =>
  have HPV : Hid ((plc t).2 = true) := hV
  have hP1 : 1 ≤ P := by rw [← HPP.out]; unfold placesOf; rw [hV]; exact Nat.succ_le_succ (Nat.zero_le _)
  have hP0 : ((P : Int) == 0) = false := by rw [beq_eq_false_iff_ne]; omega
  clear hV
  by_cases hP2 : 2048 < P
  · have hP3 : (2048 : Int) < (P : Int) := by omega
    have HF : Hid (BuildPost w t rule (.returned (.tuple #[Nf.val ⟨0, none, 0, 0, none, 0, 0⟩, .int .i64 ((48 : Nat) : Nat)])) (put3 w4 R ⟨0, none, 0, 0, none, 0, 0⟩)) := build_no HB4.out HRR2.out (by unfold buildOf; rw [if_neg (by rw [HPV.out]; decide), if_pos (by rw [HPP.out]; exact hP2)])
    have HG : Hid (NFB (put3 w4 R ⟨0, none, 0, 0, none, 0, 0⟩) R ⟨0, none, 0, 0, none, 0, 0⟩) := HR4.out.put3 _
    unfold put3 at HF HG
    simp only at HF HG
    go_wp2
    exact post_pbuild (y := ⟨0, none, 0, 0, none, 0, 0⟩) rfl rfl rfl HG.out HF.out
  have hP3 : ¬ (2048 : Int) < (P : Int) := by omega
  by_cases hr : rule < 0 ∨ 31 < rule
  · have HF : Hid (BuildPost w t rule (.returned (.tuple #[Nf.val ⟨0, none, 0, 0, none, 0, 0⟩, .int .i64 ((1 : Nat) : Nat)])) (put3 w4 R ⟨0, none, 0, 0, none, 0, 0⟩)) := build_no HB4.out HRR2.out (by unfold buildOf; rw [if_neg (by rw [HPV.out]; decide), if_neg (by rw [HPP.out]; exact hP2), if_pos hr])
    have HG : Hid (NFB (put3 w4 R ⟨0, none, 0, 0, none, 0, 0⟩) R ⟨0, none, 0, 0, none, 0, 0⟩) := HR4.out.put3 _
    unfold put3 at HF HG
    simp only at HF HG
    by_cases hr0 : rule < 0
    · go_wp2
      exact post_pbuild (y := ⟨0, none, 0, 0, none, 0, 0⟩) rfl rfl rfl HG.out HF.out
    · have hr1 : 32 ≤ rule := by omega
      go_wp2
      exact post_pbuild (y := ⟨0, none, 0, 0, none, 0, 0⟩) rfl rfl rfl HG.out HF.out
  obtain ⟨r, rfl⟩ : ∃ r : Nat, rule = (r : Nat) := ⟨rule.toNat, by omega⟩
  have hr31 : r ≤ 31 := by omega
  have hr0 : ¬ ((r : Nat) : Int) < 0 := by omega
  have hr1 : ¬ (32 : Int) ≤ ((r : Nat) : Int) := by omega
  clear hr
  have HBO : Hid (buildOf t ((r : Nat) : Int) = (mach t r, 0)) := by
    show _ = _
    unfold buildOf
    rw [if_neg (by rw [HPV.out]; decide), if_neg (by rw [HPP.out]; exact hP2), if_neg (by omega), Int.toNat_natCast]
  obtain ⟨hbS, hbE⟩ := lay_bounds HPV.out (by rw [HPP.out]; exact hP2)
  have k5 : Below w4.heap.size w4 (w4.alloc (.cells #[.nilFunc, .func (.func 42) #[] #[], .func (.func 43) #[] #[], .func (.func 44) #[] #[], .func (.func 45) #[] #[], .func (.func 46) #[] #[], .func (.func 47) #[] #[], .func (.func 48) #[] #[]] 97)) := (Below.refl _ _).alloc (Nat.le_refl _) _
  have HWB : Hid (WB (w4.alloc (.cells #[.nilFunc, .func (.func 42) #[] #[], .func (.func 43) #[] #[], .func (.func 44) #[] #[], .func (.func 45) #[] #[], .func (.func 46) #[] #[], .func (.func 47) #[] #[], .func (.func 48) #[] #[]] 97)) w4.heap.size) := heap_alloc_new w4 _
  have HB5 : Hid (Below w.heap.size w (w4.alloc (.cells #[.nilFunc, .func (.func 42) #[] #[], .func (.func 43) #[] #[], .func (.func 44) #[] #[], .func (.func 45) #[] #[], .func (.func 46) #[] #[], .func (.func 47) #[] #[], .func (.func 48) #[] #[]] 97))) := below_step HB4.out k5
  have HN5 : Hid (NB (w4.alloc (.cells #[.nilFunc, .func (.func 42) #[] #[], .func (.func 43) #[] #[], .func (.func 44) #[] #[], .func (.func 45) #[] #[], .func (.func 46) #[] #[], .func (.func 47) #[] #[], .func (.func 48) #[] #[]] 97)) A x) := HN4.out.later k5
  have HR5 : Hid (NFB (w4.alloc (.cells #[.nilFunc, .func (.func 42) #[] #[], .func (.func 43) #[] #[], .func (.func 44) #[] #[], .func (.func 45) #[] #[], .func (.func 46) #[] #[], .func (.func 47) #[] #[], .func (.func 48) #[] #[]] 97)) R ⟨0, none, 0, 0, none, 0, 0⟩) := HR4.out.later k5
  have HCW : Hid (Calls Tryz.prog 20 #[] w4 _) := ways_any w4
  clear k5
  go_wp2_with fail
  refine HCW.out.mono ?_
  rintro e w5 ⟨rfl, hw5⟩
  rw [← hw5] at HWB HB5 HN5 HR5
  obtain ⟨Y, hY⟩ : ∃ Y, w4.heap.size = Y := ⟨_, rfl⟩
  rw [hY] at HWB ⊢
  clear hw5 hY HCW HB4 HN4 HR4 z0 z1 z2 q0 q1 q2
  have kk : Below w5.heap.size w5 (w5.alloc (.cells #[.slice (some ⟨Y, 0, none⟩) 8 8, .int .i64 1, .slice none 0 0] 60)) := (Below.refl _ _).alloc (Nat.le_refl _) _
  have HB6 : Hid (Below w.heap.size w (w5.alloc (.cells #[.slice (some ⟨Y, 0, none⟩) 8 8, .int .i64 1, .slice none 0 0] 60))) := below_step HB5.out kk
  have HN6 : Hid (NB (w5.alloc (.cells #[.slice (some ⟨Y, 0, none⟩) 8 8, .int .i64 1, .slice none 0 0] 60)) A x) := HN5.out.later kk
  have HR6 : Hid (NFB (w5.alloc (.cells #[.slice (some ⟨Y, 0, none⟩) 8 8, .int .i64 1, .slice none 0 0] 60)) R ⟨0, none, 0, 0, none, 0, 0⟩) := HR5.out.later kk
  have HM6 : Hid (∀ b0, BB (w5.alloc (.cells #[.slice (some ⟨Y, 0, none⟩) 8 8, .int .i64 1, .slice none 0 0] 60)) b0 w5.heap.size Y ⟨1, []⟩) := fun b0 => ⟨(kk.block Y HWB.out.lt).trans HWB.out, .slice none 0 0, heap_alloc_new w5 _, rowE_nil _ _⟩
  have HBW : Hid (w.heap.size ≤ w5.heap.size) := HB5.out.size
  go_upto_region 9 with fail
  obtain ⟨w6, hw6⟩ : ∃ w6, w5.alloc (.cells #[.slice (some ⟨Y, 0, none⟩) 8 8, .int .i64 1, .slice none 0 0] 60) = w6 := ⟨_, rfl⟩
  obtain ⟨B, hB⟩ : ∃ B, w5.heap.size = B := ⟨_, rfl⟩
  have HBL : Hid (B < (w5.alloc (.cells #[.slice (some ⟨Y, 0, none⟩) 8 8, .int .i64 1, .slice none 0 0] 60)).heap.size) := by rw [← hB]; show _ < _; simp
  rw [hw6] at HB6 HN6 HR6 HM6 HBL ⊢
  rw [hB] at HM6 HBW ⊢
  clear hw6 hB kk HB5 HN5 HR5 HWB
  obtain ⟨y0, y1, y2, y3, y4, y5, y6, y7⟩ := HN6.out.cells
  have HCT : Hid (Calls Tryz.prog 22 #[x.val] w6 (TrimPost w6 (trim t))) := trim_any HIN.out HPV.out w6 HB6.out
  unfold Nd.val at HCT
  go_wp2_with fail
  refine HCT.out.mono ?_
  rintro e w7 ⟨k7, y, rfl, hy7⟩
  have HB7 : Hid (Below w.heap.size w w7) := below_step HB6.out k7
  have HR7 : Hid (NFB w7 R ⟨0, none, 0, 0, none, 0, 0⟩) := HR6.out.later k7
  have HM7 : Hid (BB w7 w7.heap.size B Y ⟨1, []⟩) := (HM6.out w7.heap.size).later k7
  have HY7 : Hid (NwAt (fun b => b ≠ B) w7 (trim t) y) := hy7.keep (fun b hb _ => by have := HBL.out; omega) (fun _ _ _ => rfl)
  clear k7 hy7 HCT HB6 HN6 HR6 HM6 HBL y0 y1 y2 y3 y4 y5 y6 y7
  have hTL : lay (trim t) ⟨1, []⟩ 0 = lay t ⟨1, []⟩ 0 := trim_lay _ t (Nat.le_refl _) HPV.out _ _
  have HCL : Hid (Calls Tryz.prog 21 #[.pointer (some ⟨B, 0, none⟩), y.val, .int .i64 ((0 : Nat) : Nat)] w7 _) := blay_any HY7.out (trim_plc HPV.out) (trim_tidy _ t (Nat.le_refl _) HPV.out) w7 w7.heap.size Y ⟨1, []⟩ 0 ⟨Nat.le_refl _, fun _ _ _ => rfl⟩ (Nat.le_refl _) (Nat.le_refl _) HM7.out (by rw [hTL]; omega) (by rw [hTL]; omega)
  rw [hTL] at HCL
  have HLT : Hid ((lay t ⟨1, []⟩ 0).2 < (lay t ⟨1, []⟩ 0).1.S) := lay_lt t ⟨1, []⟩ 0 (by decide)
  have HMA : Hid (mach t r = ⟨(lay t ⟨1, []⟩ 0).1.S, (lay t ⟨1, []⟩ 0).1.es, (List.replicate (lay t ⟨1, []⟩ 0).1.S 0).set (lay t ⟨1, []⟩ 0).2 (2 ^ r)⟩) := rfl
  obtain ⟨r1, hr1'⟩ : ∃ r1, lay t ⟨1, []⟩ 0 = r1 := ⟨_, rfl⟩
  rw [hr1'] at HCL HLT HMA hbS hbE
  obtain ⟨mk, en⟩ := r1
  obtain ⟨S, es⟩ := mk
  simp only at HCL HLT HMA hbS hbE
  clear hr1' hTL HY7
  unfold Nd.val at HCL
  unfold Nd.val
  simp only [Int.natCast_zero] at HCL
  go_wp2_with fail
  refine HCL.out.mono ?_
  rintro e w6 ⟨rfl, h6, f6⟩
  have HM6 : Hid (BB w6 w7.heap.size B Y ⟨S, es⟩) := h6
  have HR6 : Hid (NFB w6 R ⟨0, none, 0, 0, none, 0, 0⟩) := f6.keep HR7.out (HM7.out.ne HR7.out.ty (by decide)) (by decide)
  have HB6 : Hid (Below w.heap.size w w6) := ⟨f6.os.trans HB7.out.os, f6.tape.trans HB7.out.tape, f6.output.trans HB7.out.output, Nat.le_trans HB7.out.size f6.size, fun k hk => (f6.block k (Nat.lt_of_lt_of_le hk HB7.out.size) (by have := HBW.out; omega) (fun h => by have := HB7.out.size; omega)).trans (HB7.out.block k hk)⟩
  have HW7 : Hid (w.heap.size ≤ w7.heap.size) := HB7.out.size
  clear h6 f6 HCL HR7 HB7 HM7
  have hen : en < S := HLT.out
  have hen' : (en : Int) < (S : Int) := by omega
  obtain ⟨o, c, cw, c0, c1⟩ := HM6.out.cells
  simp only at c0 c1
  go_upto_region 12 with (first | (refine wpList_make_u32 rfl _ _ rfl w.heap.size S HB6.out.size rfl rfl (by omega) ?_; intro v7 hn7 hb7; have HUQ : Hid (RowU v7 w.heap.size _ (List.replicate S 0)) := hn7; have HKQ : Hid (Below w6.heap.size w6 v7) := hb7; obtain ⟨p0, p1⟩ := RowU.cell hn7 (i := en) (x := 0) (by rw [List.getElem?_replicate, if_pos HLT.out]); clear hn7 hb7) | fail)
  have h2r : (2 ^ r : Int) % 4294967296 = ((2 ^ r : Nat) : Int) := by
    have h1 : 2 ^ r ≤ 2 ^ 31 := Nat.pow_le_pow_right (by decide) hr31
    have h2 : ((2 ^ r : Nat) : Int) = (2 ^ r : Int) := by push_cast; rfl
    rw [← h2]
    obtain ⟨q, hq⟩ : ∃ q, 2 ^ r = q := ⟨_, rfl⟩
    rw [hq] at h1 ⊢
    simp at h1
    omega
  rw [h2r]
  obtain ⟨G, hG⟩ : ∃ G, w6.heap.size = G := ⟨_, rfl⟩
  rw [hG] at HUQ ⊢
  have hG0 : w.heap.size ≤ G := by rw [← hG]; exact HB6.out.size
  have HU8 : Hid (RowU (v7.setCell ⟨G, en, none⟩ (.int .u32 ((2 ^ r : Nat) : Nat))) w.heap.size (.slice (some ⟨G, 0, none⟩) S S) ((List.replicate S 0).set en (2 ^ r))) := HUQ.out.put en (2 ^ r)
  have HTG : Hid (TyB v7 44 G) := (HUQ.out.ty G rfl).2
  have HM8 : Hid (RowE (v7.setCell ⟨G, en, none⟩ (.int .u32 ((2 ^ r : Nat) : Nat))) w.heap.size (.slice o es.length c) es ∧ (v7.setCell ⟨G, en, none⟩ (.int .u32 ((2 ^ r : Nat) : Nat))).heap[B]? = some (.cells #[.slice (some ⟨Y, 0, none⟩) 8 8, .int .i64 (S : Nat), .slice o es.length c] 60 (0, 0))) := by
    obtain ⟨_, V, h1, h2⟩ := HM6.out
    have hV : V = .slice o es.length c := by
      simp only [World.cell?, h1] at c1
      simpa using c1
    subst hV
    have h1' := (HKQ.out.block B HM6.out.lt).trans h1
    refine ⟨((h2.low HW7.out).later HKQ.out).set HTG.out (by decide) _ _, (Below.heap_setCell v7 ⟨G, en, none⟩ _ B (fun e => ?_)).trans h1'⟩
    have e : B = G := e
    exact absurd (TyB.ne ⟨_, _, h1'⟩ (e ▸ HTG.out)) (by decide)
  have HR8 : Hid (NFB (v7.setCell ⟨G, en, none⟩ (.int .u32 ((2 ^ r : Nat) : Nat))) R ⟨0, none, 0, 0, none, 0, 0⟩) := (Below.heap_setCell v7 ⟨G, en, none⟩ _ R (fun e => by have e : R = G := e; exact absurd (TyB.ne (HR6.out.later HKQ.out).ty (e ▸ HTG.out)) (by decide))).trans (HR6.out.later HKQ.out)
  have HB8 : Hid (Below w.heap.size w (v7.setCell ⟨G, en, none⟩ (.int .u32 ((2 ^ r : Nat) : Nat)))) := (below_step HB6.out HKQ.out).setCell (p := ⟨G, en, none⟩) hG0 _
  obtain ⟨w8, hw8⟩ : ∃ w8, v7.setCell ⟨G, en, none⟩ (.int .u32 ((2 ^ r : Nat) : Nat)) = w8 := ⟨_, rfl⟩
  rw [hw8] at HU8 HM8 HR8 HB8 ⊢
  clear cw hw8 hG HUQ HTG HM6 HR6 HB6 HKQ c0 c1 h2r hG0 p0 p1
  obtain ⟨N, hN⟩ : ∃ N, es.length = N := ⟨_, rfl⟩
  rw [hN] at HM8
  have HNN : Hid (es.length = N) := hN
  clear hN
  have c0 : w8.cell? ⟨B, 1, none⟩ = some (.int .i64 (S : Nat)) := by simp [World.cell?, HM8.out.2]
  have c1 : w8.cell? ⟨B, 2, none⟩ = some (.slice o N c) := by simp [World.cell?, HM8.out.2]
  obtain ⟨z0, z1, z2⟩ := HR8.out.cells
  simp only at z0 z1 z2
  have q0 := HR8.out.frozen 0
  have q1 := HR8.out.frozen 1
  have q2 := HR8.out.frozen 2
  have HF : Hid (BuildPost w t ((r : Nat) : Int) (.returned (.tuple #[Nf.val ⟨(S : Nat), o, N, c, some ⟨G, 0, none⟩, S, S⟩, .int .i64 ((0 : Nat) : Nat)])) (put3 w8 R ⟨(S : Nat), o, N, c, some ⟨G, 0, none⟩, S, S⟩)) := by
    unfold BuildPost
    rw [HBO.out]
    refine ⟨below_put3 HB8.out HRR2.out _, _, rfl, ?_⟩
    rw [HMA.out]
    have hkE : ∀ k, k ≠ R → (put3 w8 R ⟨(S : Nat), o, N, c, some ⟨G, 0, none⟩, S, S⟩).heap[k]? = w8.heap[k]? := fun k hk => heap_put3 w8 R _ k hk
    have h1 := (HM8.out.1.keep (w' := put3 w8 R ⟨(S : Nat), o, N, c, some ⟨G, 0, none⟩, S, S⟩) (fun b _ _ hb => hkE b (fun e => absurd (TyB.ne hb (e ▸ HR8.out.ty)) (by decide))))
    have h2 := (HU8.out.keep (w' := put3 w8 R ⟨(S : Nat), o, N, c, some ⟨G, 0, none⟩, S, S⟩) (fun b _ _ hb => hkE b (fun e => absurd (TyB.ne hb (e ▸ HR8.out.ty)) (by decide))))
    exact ⟨rfl, h1.at.1, h2.at.1, h1.at2.keep (fun b hb _ => ⟨hb.1, fun h => absurd (TyB.ne hb.2 h) (by decide)⟩) (fun _ _ _ => rfl), h2.at2.keep (fun b hb _ => ⟨hb.1, fun h => absurd (TyB.ne hb.2 h) (by decide)⟩) (fun _ _ _ => rfl)⟩
  have HG : Hid (NFB (put3 w8 R ⟨(S : Nat), o, N, c, some ⟨G, 0, none⟩, S, S⟩) R ⟨(S : Nat), o, N, c, some ⟨G, 0, none⟩, S, S⟩) := NFB.put3 (w := w8) (y := ⟨0, none, 0, 0, none, 0, 0⟩) HR8.out _
  unfold put3 at HF HG
  simp only at HF HG
  go_wp2
  exact post_pbuild (y := ⟨(S : Nat), o, N, c, some ⟨G, 0, none⟩, S, S⟩) rfl rfl rfl HG.out HF.out
theorem build_ok : BuildOK := fun _ _ w rule h => pbuild_any w h rule
end Go.Proofs.YtmjnobdlgbojoaaGreatDoor


namespace Go.Proofs.YtmjnobdlgbojoaaGreatDoor
open Go.RowKit
theorem RowM.own_lt {w : World} {base : Nat} {V : Value} {xs : List Nf} (h : RowM w base V xs) : ∀ b, V.ownBlock = some b → b < w.heap.size := by
  intro b hb
  obtain ⟨_, c, z, hc⟩ := h.ty b hb
  exact (Array.getElem?_eq_some_iff.1 hc).1
theorem RowM.keepB {w w' : World} {base : Nat} {V : Value} {xs : List Nf} (h : RowM w base V xs) (hk : ∀ b, V.ownBlock = some b → w'.heap[b]? = w.heap[b]?) : RowM w' base V xs := by
  refine ⟨h.1, ?_⟩
  rcases h.2 with h6 | ⟨g, cap, cur, rfl, hBg, hg, rest⟩
  · exact Or.inl h6
  · exact Or.inr ⟨g, cap, cur, rfl, hBg, (hk g rfl).trans hg, rest⟩
end Go.Proofs.YtmjnobdlgbojoaaGreatDoor


namespace Go.Proofs.YtmjnobdlgbojoaaGreatDoor
open Go.RowKit
attribute [local go_sem ↓] Go.wp_at_zero Go.wp_at_succ
def Xs (V5 V6 : Value) (b : Nat) : Prop := V5.ownBlock ≠ some b ∧ V6.ownBlock ≠ some b
def RowN5 (w : World) (base : Nat) (V : Value) (xs : List Nd) : Prop := w.ownsRow base 30 8 V xs.length (flatN xs)
theorem RowN5.ty {w : World} {base : Nat} {V : Value} {xs : List Nd} (h : RowN5 w base V xs) : ∀ b, V.ownBlock = some b → base ≤ b ∧ b < w.heap.size := by
  intro b hb
  rcases h.2 with ⟨rfl, _⟩ | ⟨g, cap, cur, rfl, hbg, hg, _⟩
  · simp [Value.ownBlock] at hb
  · simp [Value.ownBlock] at hb
    subst hb
    exact ⟨hbg, (Array.getElem?_eq_some_iff.1 hg).1⟩
theorem RowN5.keepB {w w' : World} {base : Nat} {V : Value} {xs : List Nd} (h : RowN5 w base V xs) (hk : ∀ b, V.ownBlock = some b → w'.heap[b]? = w.heap[b]?) : RowN5 w' base V xs := by
  refine ⟨h.1, ?_⟩
  rcases h.2 with h6 | ⟨g, cap, cur, rfl, hBg, hg, rest⟩
  · exact Or.inl h6
  · exact Or.inr ⟨g, cap, cur, rfl, hBg, (hk g rfl).trans hg, rest⟩
theorem RowN5.form {w : World} {base : Nat} {V : Value} {xs : List Nd} (h : RowN5 w base V xs) : ∃ a c, V = .slice a xs.length c ∧ RowAt (fun _ => True) w a xs := by
  rcases h.2 with ⟨hv, hn⟩ | ⟨g, cap, cur, hv, hbg, hg, h1, h2, h3, h4⟩
  · exact ⟨none, 0, by rw [hv, hn], Or.inl (List.length_eq_zero_iff.1 hn)⟩
  · refine ⟨_, _, hv, Or.inr ⟨g, 0, rfl, trivial, fun j v hj => ?_⟩⟩
    have hlt := (List.getElem?_eq_some_iff.1 hj).1
    rw [flatN_length] at hlt
    rw [← h4, List.getElem?_take_of_lt (by omega)] at hj
    simp only [World.cell?, hg, Nat.zero_add]
    simpa using hj
structure Spc (w u : World) (V5 V6 : Value) (ts : List Tr) (xs : List Nd) (Ms : List Ma) (ys : List Nf) : Prop where
  r5 : RowN5 u w.heap.size V5 xs
  r6 : RowM u w.heap.size V6 ys
  i : ∀ (k : Nat) (t : Tr) (x : Nd), ts[k]? = some t → xs[k]? = some x → NodeAt (Xs V5 V6) u t x
  m : ∀ (k : Nat) (M : Ma) (y : Nf), Ms[k]? = some M → ys[k]? = some y → MaAt (Xs V5 V6) u M y
  ne : ∀ b, V5.ownBlock = some b → V6.ownBlock ≠ some b
  xl : xs.length = ts.length
  yl : ys.length = Ms.length
  low : Below w.heap.size w u
theorem Spc.later {w u u' : World} {V5 V6 : Value} {ts : List Tr} {xs : List Nd} {Ms : List Ma} {ys : List Nf} (h : Spc w u V5 V6 ts xs Ms ys) (hb : Below u.heap.size u u') : Spc w u' V5 V6 ts xs Ms ys :=
  ⟨h.r5.keepB (fun b hx => hb.block b (h.r5.ty b hx).2), h.r6.later hb, fun k t x ht hx => (h.i k t x ht hx).later hb, fun k M y hM hy => (h.m k M y hM hy).keep (fun _ h _ => h) (fun b _ hlt => hb.block b hlt), h.ne, h.xl, h.yl, below_step h.low hb⟩
theorem snoc_cases {α : Type} {l : List α} {a v : α} {k : Nat} (h : (l ++ [a])[k]? = some v) : (k < l.length ∧ l[k]? = some v) ∨ (k = l.length ∧ v = a) := by
  by_cases hi : k < l.length
  · rw [List.getElem?_append_left hi] at h
    exact Or.inl ⟨hi, h⟩
  · have hl := (List.getElem?_eq_some_iff.1 h).1
    simp at hl
    have e : k = l.length := by omega
    subst e
    simp at h
    exact Or.inr ⟨rfl, h.symm⟩
theorem Xs.first {u u' : World} {V5 V6 : Value} {g n cap : Nat} (hg : u.grownBy u' V5.ownBlock) (hgg : V5.ownBlock = some g ∨ u.heap.size ≤ g) : (∀ b, Xs V5 V6 b → b < u.heap.size → Xs (.slice (some ⟨g, 0, none⟩) n cap) V6 b) ∧ ∀ b, Xs V5 V6 b → b < u.heap.size → u'.heap[b]? = u.heap[b]? := by
  refine ⟨fun b hb hlt => ⟨?_, hb.2⟩, fun b hb hlt => hg.block b hlt (fun e => hb.1 e.symm)⟩
  simp only [Value.ownBlock, ne_eq, Option.some.injEq]
  intro e
  subst e
  rcases hgg with h | h
  · exact hb.1 h
  · omega
theorem Xs.second {u u' : World} {V5 V6 : Value} {g n cap : Nat} (hg : u.grownBy u' V6.ownBlock) (hgg : V6.ownBlock = some g ∨ u.heap.size ≤ g) : (∀ b, Xs V5 V6 b → b < u.heap.size → Xs V5 (.slice (some ⟨g, 0, none⟩) n cap) b) ∧ ∀ b, Xs V5 V6 b → b < u.heap.size → u'.heap[b]? = u.heap[b]? := by
  refine ⟨fun b hb hlt => ⟨hb.1, ?_⟩, fun b hb hlt => hg.block b hlt (fun e => hb.2 e.symm)⟩
  simp only [Value.ownBlock, ne_eq, Option.some.injEq]
  intro e
  subst e
  rcases hgg with h | h
  · exact hb.2 h
  · omega
theorem Spc.tree {w u u' : World} {V5 V6 : Value} {ts : List Tr} {xs : List Nd} {Ms : List Ma} {ys : List Nf} {t : Tr} {x : Nd} {g n cap : Nat} (h : Spc w u V5 V6 ts xs Ms ys) (hx : NodeAt (Xs V5 V6) u t x) (hr : RowN5 u' w.heap.size (.slice (some ⟨g, 0, none⟩) n cap) (xs ++ [x])) (hg : u.grownBy u' V5.ownBlock) (hgg : V5.ownBlock = some g ∨ u.heap.size ≤ g) : Spc w u' (.slice (some ⟨g, 0, none⟩) n cap) V6 (ts ++ [t]) (xs ++ [x]) Ms ys := by
  obtain ⟨k1, k2⟩ := Xs.first (V6 := V6) (n := n) (cap := cap) hg hgg
  refine ⟨hr, h.r6.keepB (fun b hb => hg.block b (h.r6.own_lt b hb) (fun e => h.ne b e.symm hb)), fun k t' x' ht hx' => ?_, fun k M y hM hy => (h.m k M y hM hy).keep k1 k2, fun b hb hb6 => ?_, by simp [h.xl], h.yl, h.low.grown hg h.low.size (fun k hk => (h.r5.ty k hk).1)⟩
  · rcases snoc_cases ht with ⟨h1, h2⟩ | ⟨h1, h2⟩
    · rcases snoc_cases hx' with ⟨h3, h4⟩ | ⟨h3, h4⟩
      · exact (h.i k t' x' h2 h4).keep k1 k2
      · have := h.xl; omega
    · rcases snoc_cases hx' with ⟨h3, h4⟩ | ⟨h3, h4⟩
      · have := h.xl; omega
      · subst h2 h4
        exact hx.keep k1 k2
  · simp only [Value.ownBlock, Option.some.injEq] at hb
    subst hb
    rcases hgg with h1 | h1
    · exact h.ne _ h1 hb6
    · have := h.r6.own_lt _ hb6
      omega
theorem Spc.mach {w u u' : World} {V5 V6 : Value} {ts : List Tr} {xs : List Nd} {Ms : List Ma} {ys : List Nf} {M : Ma} {y : Nf} {g n cap : Nat} (h : Spc w u V5 V6 ts xs Ms ys) (hx : MaAt (Xs V5 V6) u M y) (hr : RowM u' w.heap.size (.slice (some ⟨g, 0, none⟩) n cap) (ys ++ [y])) (hg : u.grownBy u' V6.ownBlock) (hgg : V6.ownBlock = some g ∨ u.heap.size ≤ g) : Spc w u' V5 (.slice (some ⟨g, 0, none⟩) n cap) ts xs (Ms ++ [M]) (ys ++ [y]) := by
  obtain ⟨k1, k2⟩ := Xs.second (V5 := V5) (n := n) (cap := cap) hg hgg
  refine ⟨h.r5.keepB (fun b hb => hg.block b (h.r5.ty b hb).2 (fun e => h.ne b hb e.symm)), hr, fun k t x ht hx => (h.i k t x ht hx).keep k1 k2, fun k M' y' hM hy => ?_, fun b hb hb6 => ?_, h.xl, by simp [h.yl], h.low.grown hg h.low.size (fun k hk => (h.r6.ty k hk).1)⟩
  · rcases snoc_cases hM with ⟨h1, h2⟩ | ⟨h1, h2⟩
    · rcases snoc_cases hy with ⟨h3, h4⟩ | ⟨h3, h4⟩
      · exact (h.m k M' y' h2 h4).keep k1 k2
      · have := h.yl; omega
    · rcases snoc_cases hy with ⟨h3, h4⟩ | ⟨h3, h4⟩
      · have := h.yl; omega
      · subst h2 h4
        exact hx.keep k1 k2
  · simp only [Value.ownBlock, Option.some.injEq] at hb6
    subst hb6
    rcases hgg with h1 | h1
    · exact h.ne _ hb h1
    · have := (h.r5.ty _ hb).2
      omega
theorem Spc.fresh {w u : World} {V5 V6 : Value} {ts : List Tr} {xs : List Nd} {Ms : List Ma} {ys : List Nf} (h : Spc w u V5 V6 ts xs Ms ys) {b : Nat} (hb : u.heap.size ≤ b) : Xs V5 V6 b :=
  ⟨fun e => by have := (h.r5.ty b e).2; omega, fun e => by have := h.r6.own_lt b e; omega⟩
theorem wpList_append_nd {w : World} {ops : Array Oper} {rest : List Oper} {o : Oper} {a : Act} {Q : Exit → Act → World → Prop} (hgd : o.guard = none) (s y : Operand)
    (ho : o.op = .call { callee := .builtin .append, args := #[s, y], argTypes := #[24, 24] })
    (base n : Nat) (V : Value) (xs : List Nd) (hs : a.eval s = V) (hlen : xs.length = n) (hn : RowN5 w base V xs) (ad : Addr) (cap : Nat) (x : Nd) (hy : a.eval y = .slice (some ad) 1 cap) (hc : ∀ j v, x.cells[j]? = some v → w.cell? (ad.add j) = some v) (hl : n ≤ 100000) (hb : base ≤ w.heap.size)
    (h : ∀ g cap' w', RowN5 w' base (.slice (some ⟨g, 0, none⟩) (n + 1) cap') (xs ++ [x]) → w.grownBy w' V.ownBlock → (V.ownBlock = some g ∨ w.heap.size ≤ g) → wpList Tryz.prog ops Q rest (a.put o.dst (.slice (some ⟨g, 0, none⟩) (n + 1) cap')) w') : wpList Tryz.prog ops Q (o :: rest) a w := by
  refine wpList_plain hgd fun K hK => ?_
  subst hlen
  obtain ⟨i0, hi, hz0, hz1, hz2⟩ := info_parts info30
  obtain ⟨g, cap', w', hr, ho2, hg, hgg, hlt⟩ := run_append_lies (P := Tryz.prog) w 24 o.type base 30 i0 _ 8 80 Tryz.underlying24 hi hz0 hz1 hz2 rfl (by decide) V xs.length _ hn ad 1 cap x.cells rfl hc
    (by have := flatN_one [x]; simpa [flatN] using this) (by decide) (by simp only [maxLen]; omega) (by omega) hb w.heap.size rfl
  unfold Oper.wp execOp
  simp only [ho, resolve, invoke, builtin, Sem.run_bind, Sem.run_pure, Result.andThen_ok, List.map_toArray, List.map_cons, List.map_nil, hs, hy, hr]
  refine hK _ _ (h g cap' w' ?_ hg (by rcases hgg with h | h; exact Or.inl h; exact Or.inr (Nat.le_of_eq h.symm)))
  unfold RowN5
  rw [List.length_append, flatN_append]
  have e : flatN [x] = x.cells := by simp [flatN]
  rw [e]
  exact ho2
theorem wpList_append_nf2 {w : World} {ops : Array Oper} {rest : List Oper} {o : Oper} {a : Act} {Q : Exit → Act → World → Prop} (hgd : o.guard = none) (s y : Operand)
    (ho : o.op = .call { callee := .builtin .append, args := #[s, y], argTypes := #[25, 25] })
    (base n : Nat) (V : Value) (xs : List Nf) (hs : a.eval s = V) (hlen : xs.length = n) (hn : RowM w base V xs) (ad : Addr) (cap : Nat) (x : Nf) (hy : a.eval y = .slice (some ad) 1 cap) (hc : ∀ j v, x.cells[j]? = some v → w.cell? (ad.add j) = some v) (hl : n ≤ 20000000) (hb : base ≤ w.heap.size)
    (h : ∀ g cap' w', RowM w' base (.slice (some ⟨g, 0, none⟩) (n + 1) cap') (xs ++ [x]) → w.grownBy w' V.ownBlock → (V.ownBlock = some g ∨ w.heap.size ≤ g) → wpList Tryz.prog ops Q rest (a.put o.dst (.slice (some ⟨g, 0, none⟩) (n + 1) cap')) w') : wpList Tryz.prog ops Q (o :: rest) a w := by
  refine wpList_plain hgd fun K hK => ?_
  subst hlen
  obtain ⟨i0, hi, hz0, hz1, hz2⟩ := info_parts infoM
  obtain ⟨g, cap', w', hr, ho2, hg, hgg, hlt⟩ := run_append_lies (P := Tryz.prog) w 25 o.type base 37 i0 _ 3 56 Tryz.underlying25 hi hz0 hz1 hz2 rfl (by decide) V xs.length _ hn ad 1 cap x.cells rfl hc
    (by have := flatM_one [x]; simpa [flatM] using this) (by decide) (by simp only [maxLen]; omega) (by omega) hb w.heap.size rfl
  unfold Oper.wp execOp
  simp only [ho, resolve, invoke, builtin, Sem.run_bind, Sem.run_pure, Result.andThen_ok, List.map_toArray, List.map_cons, List.map_nil, hs, hy, hr]
  refine hK _ _ (h g cap' w' ?_ hg (by rcases hgg with h | h; exact Or.inl h; exact Or.inr (Nat.le_of_eq h.symm)))
  unfold RowM
  rw [List.length_append, flatM_append]
  have e : flatM [x] = x.cells := by simp [flatM]
  rw [e]
  exact ho2
theorem cells_newM (u : World) (x : Nf) : ∀ j v, x.cells[j]? = some v → (u.alloc (.cells #[.int .i64 x.S, .slice x.ea x.en x.ec, .slice x.ra x.rn x.rc] 37)).cell? ((⟨u.heap.size, 0, none⟩ : Addr).add j) = some v := by
  intro j v hj
  rw [Go.WideShapes.add_plain, Nat.zero_add, World.cell?_alloc_mark]
  simpa [Nf.cells] using hj
def StrAt (w : World) (a : Option Addr) (ss : List ByteArray) : Prop := ss = [] ∨ ∃ b off, a = some ⟨b, off, none⟩ ∧ ∀ j s, ss[j]? = some s → w.cell? ⟨b, off + j, none⟩ = some (.string s)
theorem StrAt.nth {w : World} {a : Option Addr} {ss : List ByteArray} (h : StrAt w a ss) {j : Nat} {s : ByteArray} (hs : ss[j]? = some s) : ∃ b off, a = some ⟨b, off, none⟩ ∧ w.cell? ⟨b, off + j, none⟩ = some (.string s) := by
  rcases h with h | ⟨b, off, ha, hc⟩
  · subst h; simp at hs
  · exact ⟨b, off, ha, hc j s hs⟩
theorem StrAt.later {w w' : World} {a : Option Addr} {ss : List ByteArray} (h : StrAt w a ss) (hb : Below w.heap.size w w') : StrAt w' a ss := by
  rcases h with h | ⟨b, off, rfl, hc⟩
  · exact Or.inl h
  · exact Or.inr ⟨b, off, rfl, fun j s hj => (World.cell?_of_block (a := ⟨b, off + j, none⟩) (hb.block b (lt_of_cell (hc j s hj)))).trans (hc j s hj)⟩
theorem infoS : (Tryz.prog.info? 9).map (fun i => (i.zero, i.size, i.bytes)) = some (some (.string ⟨#[]⟩), 1, 16) := by kernel_rfl
theorem wpList_append_str {w : World} {ops : Array Oper} {rest : List Oper} {o : Oper} {a : Act} {Q : Exit → Act → World → Prop} (hgd : o.guard = none) (s y : Operand)
    (ho : o.op = .call { callee := .builtin .append, args := #[s, y], argTypes := #[22, 22] })
    (u : World) (hw : w = u.alloc (.cells #[.string ⟨#[]⟩] 9)) (hs : a.eval s = .slice (some ⟨u.heap.size, 0, none⟩) 1 1) (la : Option Addr) (n cap : Nat) (ss : List ByteArray) (hlen : ss.length = n) (hy : a.eval y = .slice la n cap) (hc : StrAt w la ss) (hl : n ≤ 8796093022000)
    (h : ∀ g cap' w', Below u.heap.size u w' → StrAt w' (some ⟨g, 0, none⟩) (⟨#[]⟩ :: ss) → wpList Tryz.prog ops Q rest (a.put o.dst (.slice (some ⟨g, 0, none⟩) (1 + n) cap')) w') : wpList Tryz.prog ops Q (o :: rest) a w := by
  refine wpList_plain hgd fun K hK => ?_
  subst hlen
  have kk : Below u.heap.size u w := by rw [hw]; exact (Below.refl _ _).alloc (Nat.le_refl _) _
  have hblk : w.heap[u.heap.size]? = some (.cells #[.string ⟨#[]⟩] 9) := by rw [hw]; exact heap_alloc_new u _
  obtain ⟨i0, hi, hz0, hz1, hz2⟩ := info_parts infoS
  have hown : w.ownsRow u.heap.size 9 1 (.slice (some ⟨u.heap.size, 0, none⟩) 1 1) 1 [.string ⟨#[]⟩] := ⟨rfl, Or.inr ⟨u.heap.size, 1, _, rfl, Nat.le_refl _, hblk, Nat.le_refl _, by simp [maxLen], rfl, rfl⟩⟩
  have hstr : ∀ (g c' : Nat) (w' : World), w'.ownsRow u.heap.size 9 1 (.slice (some ⟨g, 0, none⟩) (1 + ss.length) c') (1 + ss.length) ([Value.string ⟨#[]⟩] ++ ss.map Value.string) → StrAt w' (some ⟨g, 0, none⟩) (⟨#[]⟩ :: ss) := fun g c' w' ho2 => by
    rcases ho2.2 with ⟨hv, hn⟩ | ⟨g', cap', cur, hv, hbg, hg, h1, h2, h3, h4⟩
    · cases hv
    · cases hv
      refine Or.inr ⟨g, 0, rfl, fun j s hj => ?_⟩
      have hj2 : ([Value.string ⟨#[]⟩] ++ ss.map Value.string)[j]? = some (.string s) := by
        have e : [Value.string ⟨#[]⟩] ++ ss.map Value.string = ((⟨#[]⟩ :: ss) : List ByteArray).map Value.string := by simp
        rw [e, List.getElem?_map, hj]
        rfl
      have hlt := (List.getElem?_eq_some_iff.1 hj).1
      simp only [List.length_cons] at hlt
      rw [← h4, List.getElem?_take_of_lt (by omega)] at hj2
      simp only [World.cell?, hg, Nat.zero_add]
      simpa using hj2
  unfold Oper.wp execOp
  by_cases hf0 : ss.length = 0
  · have hf1 : ss = [] := List.length_eq_zero_iff.1 hf0
    subst hf1
    have hsr : Src Tryz.prog i0.size 22 (.slice la 0 cap) 0 [] w := by
      cases la with
      | none => exact Src.ofNil w Tryz.underlying22 cap
      | some ad => exact Src.ofSlice w Tryz.underlying22 ad 0 cap [] (by simp) (fun j u hj => by simp at hj) (fun u hu => by cases hu)
    have hr := run_append_room_src (P := Tryz.prog) w 22 22 o.type 9 i0 Tryz.underlying22 hi u.heap.size 0 1 1 (.slice la 0 cap) 0 [] hsr (by omega) (fun j hj => by simp at hj) (fun j hj => by simp at hj)
    simp only [List.length_nil] at hy
    simp only [ho, resolve, invoke, builtin, Sem.run_bind, Sem.run_pure, Result.andThen_ok, List.map_toArray, List.map_cons, List.map_nil, hs, hy, hr]
    refine hK _ _ (h u.heap.size 1 _ (by simpa [World.setCells] using kk) (hstr _ 1 _ (by simpa [World.setCells] using hown)))
  · rcases hc with rfl | ⟨b, off, rfl, hc⟩
    · exact absurd rfl hf0
    · obtain ⟨g', c', w', hr, ho2, hg, hgg, hlt⟩ := run_append_lies (P := Tryz.prog) w 22 o.type u.heap.size 9 i0 _ 1 16 Tryz.underlying22 hi hz0 hz1 hz2 rfl (by decide) _ 1 _ hown ⟨b, off, none⟩ ss.length cap (ss.map Value.string) (by simp)
        (fun j v hj => by
          rw [Go.WideShapes.add_plain]
          rw [List.getElem?_map] at hj
          cases e : ss[j]? with
          | none => rw [e] at hj; cases hj
          | some s => rw [e] at hj; cases hj; exact hc j s e)
        (fun v hv => by obtain ⟨s, _, rfl⟩ := List.mem_map.1 hv; rfl) (by omega) (by simp only [maxLen]; omega) (by omega) kk.size w.heap.size rfl
      simp only [ho, resolve, invoke, builtin, Sem.run_bind, Sem.run_pure, Result.andThen_ok, List.map_toArray, List.map_cons, List.map_nil, hs, hy, hr]
      exact hK _ _ (h g' c' w' (kk.grown hg kk.size (fun k hk => by simp [Value.ownBlock] at hk; omega)) (hstr _ c' _ ho2))
theorem Spc.gm {w u : World} {V5 V6 : Value} {ts : List Tr} {xs : List Nd} {Ms : List Ma} {ys : List Nf} (h : Spc w u V5 V6 ts xs Ms ys) (hg : Gath (ts.map up) Ms) (hgd : ∀ t ∈ ts, Good 1025 t) {z : Nf} (hz : MaAt (fun _ => True) u (uni Ms) z) (ht : Tab u) : ∃ ta tc la lc, V5 = .slice ta Ms.length tc ∧ V6 = .slice la Ms.length lc ∧ Gm u (ts.map up) Ms ta la xs ys z := by
  obtain ⟨ta, tc, h1, h2⟩ := h.r5.form
  obtain ⟨la, lc, h3, _, _, h4⟩ := h.r6.form
  refine ⟨ta, tc, la, lc, by rw [h1, h.xl]; have := hg.l; simp at this; rw [this], by rw [h3, h.yl], hg, h2, by simp [h.xl], fun k t x ht hx => ?_, h4, h.yl, fun k M y hM hy => (h.m k M y hM hy).keep (fun _ _ _ => trivial) (fun _ _ _ => rfl), hz, ht⟩
  rw [List.getElem?_map] at ht
  cases e : ts[k]? with
  | none => rw [e] at ht; cases ht
  | some t' =>
    rw [e] at ht
    cases ht
    exact (h.i k t' x e hx).inA (N := 1025) (by decide) (by decide) (hgd t' (List.mem_of_getElem? e))
theorem Gath.snoc {ts : List Tn} {Ms : List Ma} {t : Tn} {M : Ma} (h : Gath ts Ms) (h4 : Ms.length < 4) (hp : Pm (7 * Ms.length) t M) : Gath (ts ++ [t]) (Ms ++ [M]) := by
  refine ⟨by simp [h.l], by simp; omega, fun k t' M' ht hM => ?_⟩
  rcases snoc_cases ht with ⟨h1, h2⟩ | ⟨h1, h2⟩
  · rcases snoc_cases hM with ⟨h3, h4⟩ | ⟨h3, h4⟩
    · exact h.pm k t' M' h2 h4
    · have := h.l; omega
  · rcases snoc_cases hM with ⟨h3, h4⟩ | ⟨h3, h4⟩
    · have := h.l; omega
    · subst h2 h4 h3
      exact hp
theorem gath_nil : Gath [] [] := ⟨rfl, by decide, fun k t M h => by simp at h⟩
end Go.Proofs.YtmjnobdlgbojoaaGreatDoor
