/- The program's Build. -/
import Derived.Test.YtjmbimgofceanaaG21
import Derived.Test.YtjmbimgofceanaaG24
import Derived.Test.YtjmbimgofceanaaG26
namespace Go.Proofs.Ytjmbimgofceanaa
open Go.RowKit
attribute [local go_sem ↓] Go.wp_at_zero Go.wp_at_succ

theorem res_pbuild {tmps : Array Value} {w : World} {R : Nat} {y : Nf} {v5 : Value} (h4 : tmps[4]?.getD undef = .pointer (some ⟨R, 0, none⟩)) (h5 : tmps[5]?.getD undef = v5) (hR : NFB w R y) : (results Try.f11 tmps).run Try.prog w = .ok (.tuple #[y.val, v5]) w := by
  obtain ⟨t0, t1, t2⟩ := hR.cells
  unfold Nf.val
  simp [results, Try.results11, go_sem, h4, h5, t0, t1, t2]
theorem post_pbuild {Q : Ending → World → Prop} {a : Act} {w : World} {R : Nat} {y : Nf} {v5 : Value} (hd : a.defers = []) (h4 : a.tmps[4]?.getD undef = .pointer (some ⟨R, 0, none⟩)) (h5 : a.tmps[5]?.getD undef = v5) (hR : NFB w R y) (hQ : Q (.returned (.tuple #[y.val, v5])) w) : bodyPost Try.prog Try.f11 Q .ret a w :=
  bodyPost_ret (res_pbuild h4 h5 hR) hd hQ
theorem RowE.low {w : World} {base b : Nat} {V : Value} {es : List Eg} (h : RowE w base V es) (hb : b ≤ base) : RowE w b V es := by
  refine ⟨h.1, ?_⟩
  rcases h.2 with h6 | ⟨g, cap, cur, hv, hBg, rest⟩
  · exact Or.inl h6
  · exact Or.inr ⟨g, cap, cur, hv, Nat.le_trans hb hBg, rest⟩
/-- the table of ways, made -/
theorem ways_any (w : World) : Calls Try.prog 28 #[] w fun e w' => e = .returned (.slice (some ⟨w.heap.size, 0, none⟩) 8 8) ∧ w' = w.alloc (.cells #[.nilFunc, .func (.func 45) #[] #[], .func (.func 46) #[] #[], .func (.func 47) #[] #[], .func (.func 48) #[] #[], .func (.func 49) #[] #[], .func (.func 50) #[] #[], .func (.func 51) #[] #[]] 89) := by
  go_enter Try.func28, Try.ntmps28
  go_wp2
  go_ret
  exact ⟨rfl, rfl⟩
set_option maxRecDepth 4000 in
set_option maxHeartbeats 16000000 in
theorem pbuild_any {t : Tn} {x : Nd} (w : World) (h : InAt w t x) (rule : Int) : Calls Try.prog 11 #[x.val, .int .i64 rule] w (BuildPost w t rule) := by
  have kk : Below w.heap.size w ((w.alloc (.cells #[.int .i64 x.k, .int .u64 (Oct.word x.s 0 : Nat), .int .u64 (Oct.word x.s 1 : Nat), .int .u64 (Oct.word x.s 2 : Nat), .int .u64 (Oct.word x.s 3 : Nat), .slice x.a x.n x.c, .int .i64 x.mn, .int .i64 x.mx] 30)).alloc (.cells #[.int .i64 0, .slice none 0 0, .slice none 0 0] 38)) := ((Below.refl _ _).alloc (Nat.le_refl _) _).alloc (by simp) _
  have HNB : Hid (NB ((w.alloc (.cells #[.int .i64 x.k, .int .u64 (Oct.word x.s 0 : Nat), .int .u64 (Oct.word x.s 1 : Nat), .int .u64 (Oct.word x.s 2 : Nat), .int .u64 (Oct.word x.s 3 : Nat), .slice x.a x.n x.c, .int .i64 x.mn, .int .i64 x.mx] 30)).alloc (.cells #[.int .i64 0, .slice none 0 0, .slice none 0 0] 38)) w.heap.size x) := (nb_new w x).later ((Below.refl _ _).alloc (Nat.le_refl _) _)
  have HRB : Hid (NFB ((w.alloc (.cells #[.int .i64 x.k, .int .u64 (Oct.word x.s 0 : Nat), .int .u64 (Oct.word x.s 1 : Nat), .int .u64 (Oct.word x.s 2 : Nat), .int .u64 (Oct.word x.s 3 : Nat), .slice x.a x.n x.c, .int .i64 x.mn, .int .i64 x.mx] 30)).alloc (.cells #[.int .i64 0, .slice none 0 0, .slice none 0 0] 38)) (w.heap.size + 1) ⟨0, none, 0, 0, none, 0, 0⟩) := by
    have h1 := nfb_new (w.alloc (.cells #[.int .i64 x.k, .int .u64 (Oct.word x.s 0 : Nat), .int .u64 (Oct.word x.s 1 : Nat), .int .u64 (Oct.word x.s 2 : Nat), .int .u64 (Oct.word x.s 3 : Nat), .slice x.a x.n x.c, .int .i64 x.mn, .int .i64 x.mx] 30)) ⟨0, none, 0, 0, none, 0, 0⟩
    rw [show (w.alloc (.cells #[.int .i64 x.k, .int .u64 (Oct.word x.s 0 : Nat), .int .u64 (Oct.word x.s 1 : Nat), .int .u64 (Oct.word x.s 2 : Nat), .int .u64 (Oct.word x.s 3 : Nat), .slice x.a x.n x.c, .int .i64 x.mn, .int .i64 x.mx] 30)).heap.size = w.heap.size + 1 by simp] at h1
    exact h1
  have HB : Hid (Below w.heap.size w ((w.alloc (.cells #[.int .i64 x.k, .int .u64 (Oct.word x.s 0 : Nat), .int .u64 (Oct.word x.s 1 : Nat), .int .u64 (Oct.word x.s 2 : Nat), .int .u64 (Oct.word x.s 3 : Nat), .slice x.a x.n x.c, .int .i64 x.mn, .int .i64 x.mx] 30)).alloc (.cells #[.int .i64 0, .slice none 0 0, .slice none 0 0] 38))) := kk
  obtain ⟨w2, hw2⟩ : ∃ w2, (w.alloc (.cells #[.int .i64 x.k, .int .u64 (Oct.word x.s 0 : Nat), .int .u64 (Oct.word x.s 1 : Nat), .int .u64 (Oct.word x.s 2 : Nat), .int .u64 (Oct.word x.s 3 : Nat), .slice x.a x.n x.c, .int .i64 x.mn, .int .i64 x.mx] 30)).alloc (.cells #[.int .i64 0, .slice none 0 0, .slice none 0 0] 38) = w2 := ⟨_, rfl⟩
  rw [hw2] at HNB HRB HB
  obtain ⟨A, hA⟩ : ∃ A, w.heap.size = A := ⟨_, rfl⟩
  obtain ⟨R, hR⟩ : ∃ R, w.heap.size + 1 = R := ⟨_, rfl⟩
  rw [hA] at HNB
  rw [hR] at HRB
  have HW2 : Hid ((w.alloc (.cells #[.int .i64 x.k, .int .u64 (Oct.word x.s 0 : Nat), .int .u64 (Oct.word x.s 1 : Nat), .int .u64 (Oct.word x.s 2 : Nat), .int .u64 (Oct.word x.s 3 : Nat), .slice x.a x.n x.c, .int .i64 x.mn, .int .i64 x.mx] 30)).alloc (.cells #[.int .i64 0, .slice none 0 0, .slice none 0 0] 38) = w2) := hw2
  have HAA : Hid (w.heap.size = A) := hA
  have HRR : Hid (w.heap.size + 1 = R) := hR
  have HRR2 : Hid (w.heap.size ≤ R) := by show _ ≤ _; omega
  have HIN : Hid (InAt w t x) := h
  clear hw2 hA hR kk h
  have HRS : Hid (∀ u : World, InAt u t x → Calls Try.prog 13 #[x.val] u fun e w' => e = .returned (.int .i64 (placesOf t : Nat)) ∧ Below u.heap.size u w') := fun u hu => Places_any u hu
  obtain ⟨y0, y1, y2, y3, y4, y5, y6, y7⟩ := HNB.out.cells
  have HCP : Hid (Calls Try.prog 13 #[x.val] w2 _) := HRS.out w2 (HIN.out.later HB.out)
  obtain ⟨P, hP⟩ : ∃ P, placesOf t = P := ⟨_, rfl⟩
  rw [hP] at HCP
  have HPP : Hid (placesOf t = P) := hP
  clear hP HRS
  unfold Nd.val at HCP
  unfold Nd.val
  go_enter Try.func11, Try.ntmps11
  go_upto_region 1 with fail
  rw [HW2.out, HRR.out, HAA.out]
  clear HW2
  go_wp2_with fail
  refine HCP.out.mono ?_
  rintro e w4 ⟨rfl, k4⟩
  have HB4 : Hid (Below w.heap.size w w4) := below_step HB.out k4
  have HN4 : Hid (NB w4 A x) := HNB.out.later k4
  have HR4 : Hid (NFB w4 R ⟨0, none, 0, 0, none, 0, 0⟩) := HRB.out.later k4
  clear k4 HB HNB HRB HCP y0 y1 y2 y3 y4 y5 y6 y7
  obtain ⟨z0, z1, z2⟩ := HR4.out.cells
  simp only at z0 z1 z2
  have q0 := HR4.out.frozen 0
  have q1 := HR4.out.frozen 1
  have q2 := HR4.out.frozen 2
  obtain ⟨V, hV⟩ : ∃ V, (plc t).2 = V := ⟨_, rfl⟩
  cases V with
  | false =>
    have hP0 : P = 0 := by rw [← HPP.out]; unfold placesOf; rw [hV]; rfl
    have HF : Hid (BuildPost w t rule (.returned (.tuple #[Nf.val ⟨0, none, 0, 0, none, 0, 0⟩, .int .i64 ((50 : Nat) : Nat)])) (put3 w4 R ⟨0, none, 0, 0, none, 0, 0⟩)) := build_no HB4.out HRR2.out (by unfold buildOf; rw [if_pos hV])
    have HG : Hid (NFB (put3 w4 R ⟨0, none, 0, 0, none, 0, 0⟩) R ⟨0, none, 0, 0, none, 0, 0⟩) := HR4.out.put3 _
    unfold put3 at HF HG
    simp only at HF HG
    subst hP0
    go_wp2
    exact post_pbuild (y := ⟨0, none, 0, 0, none, 0, 0⟩) rfl rfl rfl HG.out HF.out
  | true =>
  have HPV : Hid ((plc t).2 = true) := hV
  have hP1 : 1 ≤ P := by rw [← HPP.out]; unfold placesOf; rw [hV]; exact Nat.succ_le_succ (Nat.zero_le _)
  have hP0 : ((P : Int) == 0) = false := by rw [beq_eq_false_iff_ne]; omega
  clear hV
  by_cases hP2 : 2048 < P
  · have hP3 : (2048 : Int) < (P : Int) := by omega
    have HF : Hid (BuildPost w t rule (.returned (.tuple #[Nf.val ⟨0, none, 0, 0, none, 0, 0⟩, .int .i64 ((48 : Nat) : Nat)])) (put3 w4 R ⟨0, none, 0, 0, none, 0, 0⟩)) := build_no HB4.out HRR2.out (by unfold buildOf; rw [if_neg (by rw [HPV.out]; decide), if_pos (by rw [HPP.out]; exact hP2)])
    have HG : Hid (NFB (put3 w4 R ⟨0, none, 0, 0, none, 0, 0⟩) R ⟨0, none, 0, 0, none, 0, 0⟩) := HR4.out.put3 _
    unfold put3 at HF HG
    simp only at HF HG
    go_wp2
    exact post_pbuild (y := ⟨0, none, 0, 0, none, 0, 0⟩) rfl rfl rfl HG.out HF.out
  have hP3 : ¬ (2048 : Int) < (P : Int) := by omega
  by_cases hr : rule < 0 ∨ 31 < rule
  · have HF : Hid (BuildPost w t rule (.returned (.tuple #[Nf.val ⟨0, none, 0, 0, none, 0, 0⟩, .int .i64 ((1 : Nat) : Nat)])) (put3 w4 R ⟨0, none, 0, 0, none, 0, 0⟩)) := build_no HB4.out HRR2.out (by unfold buildOf; rw [if_neg (by rw [HPV.out]; decide), if_neg (by rw [HPP.out]; exact hP2), if_pos hr])
    have HG : Hid (NFB (put3 w4 R ⟨0, none, 0, 0, none, 0, 0⟩) R ⟨0, none, 0, 0, none, 0, 0⟩) := HR4.out.put3 _
    unfold put3 at HF HG
    simp only at HF HG
    by_cases hr0 : rule < 0
    · go_wp2
      exact post_pbuild (y := ⟨0, none, 0, 0, none, 0, 0⟩) rfl rfl rfl HG.out HF.out
    · have hr1 : 32 ≤ rule := by omega
      go_wp2
      exact post_pbuild (y := ⟨0, none, 0, 0, none, 0, 0⟩) rfl rfl rfl HG.out HF.out
  obtain ⟨r, rfl⟩ : ∃ r : Nat, rule = (r : Nat) := ⟨rule.toNat, by omega⟩
  have hr31 : r ≤ 31 := by omega
  have hr0 : ¬ ((r : Nat) : Int) < 0 := by omega
  have hr1 : ¬ (32 : Int) ≤ ((r : Nat) : Int) := by omega
  clear hr
  have HBO : Hid (buildOf t ((r : Nat) : Int) = (mach t r, 0)) := by
    show _ = _
    unfold buildOf
    rw [if_neg (by rw [HPV.out]; decide), if_neg (by rw [HPP.out]; exact hP2), if_neg (by omega), Int.toNat_natCast]
  obtain ⟨hbS, hbE⟩ := lay_bounds HPV.out (by rw [HPP.out]; exact hP2)
  have k5 : Below w4.heap.size w4 (w4.alloc (.cells #[.nilFunc, .func (.func 45) #[] #[], .func (.func 46) #[] #[], .func (.func 47) #[] #[], .func (.func 48) #[] #[], .func (.func 49) #[] #[], .func (.func 50) #[] #[], .func (.func 51) #[] #[]] 89)) := (Below.refl _ _).alloc (Nat.le_refl _) _
  have HWB : Hid (WB (w4.alloc (.cells #[.nilFunc, .func (.func 45) #[] #[], .func (.func 46) #[] #[], .func (.func 47) #[] #[], .func (.func 48) #[] #[], .func (.func 49) #[] #[], .func (.func 50) #[] #[], .func (.func 51) #[] #[]] 89)) w4.heap.size) := heap_alloc_new w4 _
  have HB5 : Hid (Below w.heap.size w (w4.alloc (.cells #[.nilFunc, .func (.func 45) #[] #[], .func (.func 46) #[] #[], .func (.func 47) #[] #[], .func (.func 48) #[] #[], .func (.func 49) #[] #[], .func (.func 50) #[] #[], .func (.func 51) #[] #[]] 89))) := below_step HB4.out k5
  have HN5 : Hid (NB (w4.alloc (.cells #[.nilFunc, .func (.func 45) #[] #[], .func (.func 46) #[] #[], .func (.func 47) #[] #[], .func (.func 48) #[] #[], .func (.func 49) #[] #[], .func (.func 50) #[] #[], .func (.func 51) #[] #[]] 89)) A x) := HN4.out.later k5
  have HR5 : Hid (NFB (w4.alloc (.cells #[.nilFunc, .func (.func 45) #[] #[], .func (.func 46) #[] #[], .func (.func 47) #[] #[], .func (.func 48) #[] #[], .func (.func 49) #[] #[], .func (.func 50) #[] #[], .func (.func 51) #[] #[]] 89)) R ⟨0, none, 0, 0, none, 0, 0⟩) := HR4.out.later k5
  have HCW : Hid (Calls Try.prog 28 #[] w4 _) := ways_any w4
  clear k5
  go_wp2_with fail
  refine HCW.out.mono ?_
  rintro e w5 ⟨rfl, hw5⟩
  rw [← hw5] at HWB HB5 HN5 HR5
  obtain ⟨Y, hY⟩ : ∃ Y, w4.heap.size = Y := ⟨_, rfl⟩
  rw [hY] at HWB ⊢
  clear hw5 hY HCW HB4 HN4 HR4 z0 z1 z2 q0 q1 q2
  have kk : Below w5.heap.size w5 (w5.alloc (.cells #[.slice (some ⟨Y, 0, none⟩) 8 8, .int .i64 1, .slice none 0 0] 66)) := (Below.refl _ _).alloc (Nat.le_refl _) _
  have HB6 : Hid (Below w.heap.size w (w5.alloc (.cells #[.slice (some ⟨Y, 0, none⟩) 8 8, .int .i64 1, .slice none 0 0] 66))) := below_step HB5.out kk
  have HN6 : Hid (NB (w5.alloc (.cells #[.slice (some ⟨Y, 0, none⟩) 8 8, .int .i64 1, .slice none 0 0] 66)) A x) := HN5.out.later kk
  have HR6 : Hid (NFB (w5.alloc (.cells #[.slice (some ⟨Y, 0, none⟩) 8 8, .int .i64 1, .slice none 0 0] 66)) R ⟨0, none, 0, 0, none, 0, 0⟩) := HR5.out.later kk
  have HM6 : Hid (∀ b0, BB (w5.alloc (.cells #[.slice (some ⟨Y, 0, none⟩) 8 8, .int .i64 1, .slice none 0 0] 66)) b0 w5.heap.size Y ⟨1, []⟩) := fun b0 => ⟨(kk.block Y HWB.out.lt).trans HWB.out, .slice none 0 0, heap_alloc_new w5 _, rowE_nil _ _⟩
  have HBW : Hid (w.heap.size ≤ w5.heap.size) := HB5.out.size
  go_upto_region 9 with fail
  obtain ⟨w6, hw6⟩ : ∃ w6, w5.alloc (.cells #[.slice (some ⟨Y, 0, none⟩) 8 8, .int .i64 1, .slice none 0 0] 66) = w6 := ⟨_, rfl⟩
  obtain ⟨B, hB⟩ : ∃ B, w5.heap.size = B := ⟨_, rfl⟩
  have HBL : Hid (B < (w5.alloc (.cells #[.slice (some ⟨Y, 0, none⟩) 8 8, .int .i64 1, .slice none 0 0] 66)).heap.size) := by rw [← hB]; show _ < _; simp
  rw [hw6] at HB6 HN6 HR6 HM6 HBL ⊢
  rw [hB] at HM6 HBW ⊢
  clear hw6 hB kk HB5 HN5 HR5 HWB
  obtain ⟨y0, y1, y2, y3, y4, y5, y6, y7⟩ := HN6.out.cells
  have HCT : Hid (Calls Try.prog 30 #[x.val] w6 (TrimPost w6 (trim t))) := trim_any HIN.out HPV.out w6 HB6.out
  unfold Nd.val at HCT
  go_wp2_with fail
  refine HCT.out.mono ?_
  rintro e w7 ⟨k7, y, rfl, hy7⟩
  have HB7 : Hid (Below w.heap.size w w7) := below_step HB6.out k7
  have HR7 : Hid (NFB w7 R ⟨0, none, 0, 0, none, 0, 0⟩) := HR6.out.later k7
  have HM7 : Hid (BB w7 w7.heap.size B Y ⟨1, []⟩) := (HM6.out w7.heap.size).later k7
  have HY7 : Hid (NwAt (fun b => b ≠ B) w7 (trim t) y) := hy7.keep (fun b hb _ => by have := HBL.out; omega) (fun _ _ _ => rfl)
  clear k7 hy7 HCT HB6 HN6 HR6 HM6 HBL y0 y1 y2 y3 y4 y5 y6 y7
  have hTL : lay (trim t) ⟨1, []⟩ 0 = lay t ⟨1, []⟩ 0 := trim_lay _ t (Nat.le_refl _) HPV.out _ _
  have HCL : Hid (Calls Try.prog 29 #[.pointer (some ⟨B, 0, none⟩), y.val, .int .i64 ((0 : Nat) : Nat)] w7 _) := blay_any HY7.out (trim_plc HPV.out) (trim_tidy _ t (Nat.le_refl _) HPV.out) w7 w7.heap.size Y ⟨1, []⟩ 0 ⟨Nat.le_refl _, fun _ _ _ => rfl⟩ (Nat.le_refl _) (Nat.le_refl _) HM7.out (by rw [hTL]; omega) (by rw [hTL]; omega)
  rw [hTL] at HCL
  have HLT : Hid ((lay t ⟨1, []⟩ 0).2 < (lay t ⟨1, []⟩ 0).1.S) := lay_lt t ⟨1, []⟩ 0 (by decide)
  have HMA : Hid (mach t r = ⟨(lay t ⟨1, []⟩ 0).1.S, (lay t ⟨1, []⟩ 0).1.es, (List.replicate (lay t ⟨1, []⟩ 0).1.S 0).set (lay t ⟨1, []⟩ 0).2 (2 ^ r)⟩) := rfl
  obtain ⟨r1, hr1'⟩ : ∃ r1, lay t ⟨1, []⟩ 0 = r1 := ⟨_, rfl⟩
  rw [hr1'] at HCL HLT HMA hbS hbE
  obtain ⟨mk, en⟩ := r1
  obtain ⟨S, es⟩ := mk
  simp only at HCL HLT HMA hbS hbE
  clear hr1' hTL HY7
  unfold Nd.val at HCL
  unfold Nd.val
  simp only [Int.natCast_zero] at HCL
  go_wp2_with fail
  refine HCL.out.mono ?_
  rintro e w6 ⟨rfl, h6, f6⟩
  have HM6 : Hid (BB w6 w7.heap.size B Y ⟨S, es⟩) := h6
  have HR6 : Hid (NFB w6 R ⟨0, none, 0, 0, none, 0, 0⟩) := f6.keep HR7.out (HM7.out.ne HR7.out.ty (by decide)) (by decide)
  have HB6 : Hid (Below w.heap.size w w6) := ⟨f6.os.trans HB7.out.os, f6.tape.trans HB7.out.tape, f6.output.trans HB7.out.output, Nat.le_trans HB7.out.size f6.size, fun k hk => (f6.block k (Nat.lt_of_lt_of_le hk HB7.out.size) (by have := HBW.out; omega) (fun h => by have := HB7.out.size; omega)).trans (HB7.out.block k hk)⟩
  have HW7 : Hid (w.heap.size ≤ w7.heap.size) := HB7.out.size
  clear h6 f6 HCL HR7 HB7 HM7
  have hen : en < S := HLT.out
  have hen' : (en : Int) < (S : Int) := by omega
  obtain ⟨o, c, cw, c0, c1⟩ := HM6.out.cells
  simp only at c0 c1
  go_upto_region 12 with (first | (refine wpList_make_u32 rfl _ _ rfl w.heap.size S HB6.out.size rfl rfl (by omega) ?_; intro v7 hn7 hb7; have HUQ : Hid (RowU v7 w.heap.size _ (List.replicate S 0)) := hn7; have HKQ : Hid (Below w6.heap.size w6 v7) := hb7; obtain ⟨p0, p1⟩ := RowU.cell hn7 (i := en) (x := 0) (by rw [List.getElem?_replicate, if_pos HLT.out]); clear hn7 hb7) | fail)
  have h2r : (2 ^ r : Int) % 4294967296 = ((2 ^ r : Nat) : Int) := by
    have h1 : 2 ^ r ≤ 2 ^ 31 := Nat.pow_le_pow_right (by decide) hr31
    have h2 : ((2 ^ r : Nat) : Int) = (2 ^ r : Int) := by push_cast; rfl
    rw [← h2]
    obtain ⟨q, hq⟩ : ∃ q, 2 ^ r = q := ⟨_, rfl⟩
    rw [hq] at h1 ⊢
    simp at h1
    omega
  rw [h2r]
  obtain ⟨G, hG⟩ : ∃ G, w6.heap.size = G := ⟨_, rfl⟩
  rw [hG] at HUQ ⊢
  have hG0 : w.heap.size ≤ G := by rw [← hG]; exact HB6.out.size
  have HU8 : Hid (RowU (v7.setCell ⟨G, en, none⟩ (.int .u32 ((2 ^ r : Nat) : Nat))) w.heap.size (.slice (some ⟨G, 0, none⟩) S S) ((List.replicate S 0).set en (2 ^ r))) := HUQ.out.put en (2 ^ r)
  have HTG : Hid (TyB v7 44 G) := (HUQ.out.ty G rfl).2
  have HM8 : Hid (RowE (v7.setCell ⟨G, en, none⟩ (.int .u32 ((2 ^ r : Nat) : Nat))) w.heap.size (.slice o es.length c) es ∧ (v7.setCell ⟨G, en, none⟩ (.int .u32 ((2 ^ r : Nat) : Nat))).heap[B]? = some (.cells #[.slice (some ⟨Y, 0, none⟩) 8 8, .int .i64 (S : Nat), .slice o es.length c] 66 (0, 0))) := by
    obtain ⟨_, V, h1, h2⟩ := HM6.out
    have hV : V = .slice o es.length c := by
      simp only [World.cell?, h1] at c1
      simpa using c1
    subst hV
    have h1' := (HKQ.out.block B HM6.out.lt).trans h1
    refine ⟨((h2.low HW7.out).later HKQ.out).set HTG.out (by decide) _ _, (Below.heap_setCell v7 ⟨G, en, none⟩ _ B (fun e => ?_)).trans h1'⟩
    have e : B = G := e
    exact absurd (TyB.ne ⟨_, _, h1'⟩ (e ▸ HTG.out)) (by decide)
  have HR8 : Hid (NFB (v7.setCell ⟨G, en, none⟩ (.int .u32 ((2 ^ r : Nat) : Nat))) R ⟨0, none, 0, 0, none, 0, 0⟩) := (Below.heap_setCell v7 ⟨G, en, none⟩ _ R (fun e => by have e : R = G := e; exact absurd (TyB.ne (HR6.out.later HKQ.out).ty (e ▸ HTG.out)) (by decide))).trans (HR6.out.later HKQ.out)
  have HB8 : Hid (Below w.heap.size w (v7.setCell ⟨G, en, none⟩ (.int .u32 ((2 ^ r : Nat) : Nat)))) := (below_step HB6.out HKQ.out).setCell (p := ⟨G, en, none⟩) hG0 _
  obtain ⟨w8, hw8⟩ : ∃ w8, v7.setCell ⟨G, en, none⟩ (.int .u32 ((2 ^ r : Nat) : Nat)) = w8 := ⟨_, rfl⟩
  rw [hw8] at HU8 HM8 HR8 HB8 ⊢
  clear cw hw8 hG HUQ HTG HM6 HR6 HB6 HKQ c0 c1 h2r hG0 p0 p1
  obtain ⟨N, hN⟩ : ∃ N, es.length = N := ⟨_, rfl⟩
  rw [hN] at HM8
  have HNN : Hid (es.length = N) := hN
  clear hN
  have c0 : w8.cell? ⟨B, 1, none⟩ = some (.int .i64 (S : Nat)) := by simp [World.cell?, HM8.out.2]
  have c1 : w8.cell? ⟨B, 2, none⟩ = some (.slice o N c) := by simp [World.cell?, HM8.out.2]
  obtain ⟨z0, z1, z2⟩ := HR8.out.cells
  simp only at z0 z1 z2
  have q0 := HR8.out.frozen 0
  have q1 := HR8.out.frozen 1
  have q2 := HR8.out.frozen 2
  have HF : Hid (BuildPost w t ((r : Nat) : Int) (.returned (.tuple #[Nf.val ⟨(S : Nat), o, N, c, some ⟨G, 0, none⟩, S, S⟩, .int .i64 ((0 : Nat) : Nat)])) (put3 w8 R ⟨(S : Nat), o, N, c, some ⟨G, 0, none⟩, S, S⟩)) := by
    unfold BuildPost
    rw [HBO.out]
    refine ⟨below_put3 HB8.out HRR2.out _, _, rfl, ?_⟩
    rw [HMA.out]
    have hkE : ∀ k, k ≠ R → (put3 w8 R ⟨(S : Nat), o, N, c, some ⟨G, 0, none⟩, S, S⟩).heap[k]? = w8.heap[k]? := fun k hk => heap_put3 w8 R _ k hk
    have h1 := (HM8.out.1.keep (w' := put3 w8 R ⟨(S : Nat), o, N, c, some ⟨G, 0, none⟩, S, S⟩) (fun b _ _ hb => hkE b (fun e => absurd (TyB.ne hb (e ▸ HR8.out.ty)) (by decide))))
    have h2 := (HU8.out.keep (w' := put3 w8 R ⟨(S : Nat), o, N, c, some ⟨G, 0, none⟩, S, S⟩) (fun b _ _ hb => hkE b (fun e => absurd (TyB.ne hb (e ▸ HR8.out.ty)) (by decide))))
    exact ⟨rfl, h1.at.1, h2.at.1, h1.at2.keep (fun b hb _ => ⟨hb.1, fun h => absurd (TyB.ne hb.2 h) (by decide)⟩) (fun _ _ _ => rfl), h2.at2.keep (fun b hb _ => ⟨hb.1, fun h => absurd (TyB.ne hb.2 h) (by decide)⟩) (fun _ _ _ => rfl)⟩
  have HG : Hid (NFB (put3 w8 R ⟨(S : Nat), o, N, c, some ⟨G, 0, none⟩, S, S⟩) R ⟨(S : Nat), o, N, c, some ⟨G, 0, none⟩, S, S⟩) := NFB.put3 (w := w8) (y := ⟨0, none, 0, 0, none, 0, 0⟩) HR8.out _
  unfold put3 at HF HG
  simp only at HF HG
  go_wp2
  exact post_pbuild (y := ⟨(S : Nat), o, N, c, some ⟨G, 0, none⟩, S, S⟩) rfl rfl rfl HG.out HF.out
theorem build_ok : BuildOK := fun _ _ w rule h => pbuild_any w h rule
end Go.Proofs.Ytjmbimgofceanaa

/- The program's Build, its lists its own. -/
namespace Go.Proofs.Ytjmbimgofceanaa
open Go.RowKit
attribute [local go_sem ↓] Go.wp_at_zero Go.wp_at_succ

set_option maxRecDepth 4000 in
set_option maxHeartbeats 16000000 in
theorem pbuild_own {t : Tn} {x : Nd} (w : World) (h : InAt w t x) (rule : Int) : Calls Try.prog 11 #[x.val, .int .i64 rule] w (BuildOwn w t rule) := by
  have kk : Below w.heap.size w ((w.alloc (.cells #[.int .i64 x.k, .int .u64 (Oct.word x.s 0 : Nat), .int .u64 (Oct.word x.s 1 : Nat), .int .u64 (Oct.word x.s 2 : Nat), .int .u64 (Oct.word x.s 3 : Nat), .slice x.a x.n x.c, .int .i64 x.mn, .int .i64 x.mx] 30)).alloc (.cells #[.int .i64 0, .slice none 0 0, .slice none 0 0] 38)) := ((Below.refl _ _).alloc (Nat.le_refl _) _).alloc (by simp) _
  have HNB : Hid (NB ((w.alloc (.cells #[.int .i64 x.k, .int .u64 (Oct.word x.s 0 : Nat), .int .u64 (Oct.word x.s 1 : Nat), .int .u64 (Oct.word x.s 2 : Nat), .int .u64 (Oct.word x.s 3 : Nat), .slice x.a x.n x.c, .int .i64 x.mn, .int .i64 x.mx] 30)).alloc (.cells #[.int .i64 0, .slice none 0 0, .slice none 0 0] 38)) w.heap.size x) := (nb_new w x).later ((Below.refl _ _).alloc (Nat.le_refl _) _)
  have HRB : Hid (NFB ((w.alloc (.cells #[.int .i64 x.k, .int .u64 (Oct.word x.s 0 : Nat), .int .u64 (Oct.word x.s 1 : Nat), .int .u64 (Oct.word x.s 2 : Nat), .int .u64 (Oct.word x.s 3 : Nat), .slice x.a x.n x.c, .int .i64 x.mn, .int .i64 x.mx] 30)).alloc (.cells #[.int .i64 0, .slice none 0 0, .slice none 0 0] 38)) (w.heap.size + 1) ⟨0, none, 0, 0, none, 0, 0⟩) := by
    have h1 := nfb_new (w.alloc (.cells #[.int .i64 x.k, .int .u64 (Oct.word x.s 0 : Nat), .int .u64 (Oct.word x.s 1 : Nat), .int .u64 (Oct.word x.s 2 : Nat), .int .u64 (Oct.word x.s 3 : Nat), .slice x.a x.n x.c, .int .i64 x.mn, .int .i64 x.mx] 30)) ⟨0, none, 0, 0, none, 0, 0⟩
    rw [show (w.alloc (.cells #[.int .i64 x.k, .int .u64 (Oct.word x.s 0 : Nat), .int .u64 (Oct.word x.s 1 : Nat), .int .u64 (Oct.word x.s 2 : Nat), .int .u64 (Oct.word x.s 3 : Nat), .slice x.a x.n x.c, .int .i64 x.mn, .int .i64 x.mx] 30)).heap.size = w.heap.size + 1 by simp] at h1
    exact h1
  have HB : Hid (Below w.heap.size w ((w.alloc (.cells #[.int .i64 x.k, .int .u64 (Oct.word x.s 0 : Nat), .int .u64 (Oct.word x.s 1 : Nat), .int .u64 (Oct.word x.s 2 : Nat), .int .u64 (Oct.word x.s 3 : Nat), .slice x.a x.n x.c, .int .i64 x.mn, .int .i64 x.mx] 30)).alloc (.cells #[.int .i64 0, .slice none 0 0, .slice none 0 0] 38))) := kk
  obtain ⟨w2, hw2⟩ : ∃ w2, (w.alloc (.cells #[.int .i64 x.k, .int .u64 (Oct.word x.s 0 : Nat), .int .u64 (Oct.word x.s 1 : Nat), .int .u64 (Oct.word x.s 2 : Nat), .int .u64 (Oct.word x.s 3 : Nat), .slice x.a x.n x.c, .int .i64 x.mn, .int .i64 x.mx] 30)).alloc (.cells #[.int .i64 0, .slice none 0 0, .slice none 0 0] 38) = w2 := ⟨_, rfl⟩
  rw [hw2] at HNB HRB HB
  obtain ⟨A, hA⟩ : ∃ A, w.heap.size = A := ⟨_, rfl⟩
  obtain ⟨R, hR⟩ : ∃ R, w.heap.size + 1 = R := ⟨_, rfl⟩
  rw [hA] at HNB
  rw [hR] at HRB
  have HW2 : Hid ((w.alloc (.cells #[.int .i64 x.k, .int .u64 (Oct.word x.s 0 : Nat), .int .u64 (Oct.word x.s 1 : Nat), .int .u64 (Oct.word x.s 2 : Nat), .int .u64 (Oct.word x.s 3 : Nat), .slice x.a x.n x.c, .int .i64 x.mn, .int .i64 x.mx] 30)).alloc (.cells #[.int .i64 0, .slice none 0 0, .slice none 0 0] 38) = w2) := hw2
  have HAA : Hid (w.heap.size = A) := hA
  have HRR : Hid (w.heap.size + 1 = R) := hR
  have HRR2 : Hid (w.heap.size ≤ R) := by show _ ≤ _; omega
  have HIN : Hid (InAt w t x) := h
  clear hw2 hA hR kk h
  have HRS : Hid (∀ u : World, InAt u t x → Calls Try.prog 13 #[x.val] u fun e w' => e = .returned (.int .i64 (placesOf t : Nat)) ∧ Below u.heap.size u w') := fun u hu => Places_any u hu
  obtain ⟨y0, y1, y2, y3, y4, y5, y6, y7⟩ := HNB.out.cells
  have HCP : Hid (Calls Try.prog 13 #[x.val] w2 _) := HRS.out w2 (HIN.out.later HB.out)
  obtain ⟨P, hP⟩ : ∃ P, placesOf t = P := ⟨_, rfl⟩
  rw [hP] at HCP
  have HPP : Hid (placesOf t = P) := hP
  clear hP HRS
  unfold Nd.val at HCP
  unfold Nd.val
  go_enter Try.func11, Try.ntmps11
  go_upto_region 1 with fail
  rw [HW2.out, HRR.out, HAA.out]
  clear HW2
  go_wp2_with fail
  refine HCP.out.mono ?_
  rintro e w4 ⟨rfl, k4⟩
  have HB4 : Hid (Below w.heap.size w w4) := below_step HB.out k4
  have HN4 : Hid (NB w4 A x) := HNB.out.later k4
  have HR4 : Hid (NFB w4 R ⟨0, none, 0, 0, none, 0, 0⟩) := HRB.out.later k4
  clear k4 HB HNB HRB HCP y0 y1 y2 y3 y4 y5 y6 y7
  obtain ⟨z0, z1, z2⟩ := HR4.out.cells
  simp only at z0 z1 z2
  have q0 := HR4.out.frozen 0
  have q1 := HR4.out.frozen 1
  have q2 := HR4.out.frozen 2
  obtain ⟨V, hV⟩ : ∃ V, (plc t).2 = V := ⟨_, rfl⟩
  cases V with
  | false =>
    have hP0 : P = 0 := by rw [← HPP.out]; unfold placesOf; rw [hV]; rfl
    have HF : Hid (BuildOwn w t rule (.returned (.tuple #[Nf.val ⟨0, none, 0, 0, none, 0, 0⟩, .int .i64 ((50 : Nat) : Nat)])) (put3 w4 R ⟨0, none, 0, 0, none, 0, 0⟩)) := build_nop HB4.out HRR2.out (by unfold buildOf; rw [if_pos hV])
    have HG : Hid (NFB (put3 w4 R ⟨0, none, 0, 0, none, 0, 0⟩) R ⟨0, none, 0, 0, none, 0, 0⟩) := HR4.out.put3 _
    unfold put3 at HF HG
    simp only at HF HG
    subst hP0
    go_wp2
    exact post_pbuild (y := ⟨0, none, 0, 0, none, 0, 0⟩) rfl rfl rfl HG.out HF.out
  | true =>
  have HPV : Hid ((plc t).2 = true) := hV
  have hP1 : 1 ≤ P := by rw [← HPP.out]; unfold placesOf; rw [hV]; exact Nat.succ_le_succ (Nat.zero_le _)
  have hP0 : ((P : Int) == 0) = false := by rw [beq_eq_false_iff_ne]; omega
  clear hV
  by_cases hP2 : 2048 < P
  · have hP3 : (2048 : Int) < (P : Int) := by omega
    have HF : Hid (BuildOwn w t rule (.returned (.tuple #[Nf.val ⟨0, none, 0, 0, none, 0, 0⟩, .int .i64 ((48 : Nat) : Nat)])) (put3 w4 R ⟨0, none, 0, 0, none, 0, 0⟩)) := build_nop HB4.out HRR2.out (by unfold buildOf; rw [if_neg (by rw [HPV.out]; decide), if_pos (by rw [HPP.out]; exact hP2)])
    have HG : Hid (NFB (put3 w4 R ⟨0, none, 0, 0, none, 0, 0⟩) R ⟨0, none, 0, 0, none, 0, 0⟩) := HR4.out.put3 _
    unfold put3 at HF HG
    simp only at HF HG
    go_wp2
    exact post_pbuild (y := ⟨0, none, 0, 0, none, 0, 0⟩) rfl rfl rfl HG.out HF.out
  have hP3 : ¬ (2048 : Int) < (P : Int) := by omega
  by_cases hr : rule < 0 ∨ 31 < rule
  · have HF : Hid (BuildOwn w t rule (.returned (.tuple #[Nf.val ⟨0, none, 0, 0, none, 0, 0⟩, .int .i64 ((1 : Nat) : Nat)])) (put3 w4 R ⟨0, none, 0, 0, none, 0, 0⟩)) := build_nop HB4.out HRR2.out (by unfold buildOf; rw [if_neg (by rw [HPV.out]; decide), if_neg (by rw [HPP.out]; exact hP2), if_pos hr])
    have HG : Hid (NFB (put3 w4 R ⟨0, none, 0, 0, none, 0, 0⟩) R ⟨0, none, 0, 0, none, 0, 0⟩) := HR4.out.put3 _
    unfold put3 at HF HG
    simp only at HF HG
    by_cases hr0 : rule < 0
    · go_wp2
      exact post_pbuild (y := ⟨0, none, 0, 0, none, 0, 0⟩) rfl rfl rfl HG.out HF.out
    · have hr1 : 32 ≤ rule := by omega
      go_wp2
      exact post_pbuild (y := ⟨0, none, 0, 0, none, 0, 0⟩) rfl rfl rfl HG.out HF.out
  obtain ⟨r, rfl⟩ : ∃ r : Nat, rule = (r : Nat) := ⟨rule.toNat, by omega⟩
  have hr31 : r ≤ 31 := by omega
  have hr0 : ¬ ((r : Nat) : Int) < 0 := by omega
  have hr1 : ¬ (32 : Int) ≤ ((r : Nat) : Int) := by omega
  clear hr
  have HBO : Hid (buildOf t ((r : Nat) : Int) = (mach t r, 0)) := by
    show _ = _
    unfold buildOf
    rw [if_neg (by rw [HPV.out]; decide), if_neg (by rw [HPP.out]; exact hP2), if_neg (by omega), Int.toNat_natCast]
  obtain ⟨hbS, hbE⟩ := lay_bounds HPV.out (by rw [HPP.out]; exact hP2)
  have k5 : Below w4.heap.size w4 (w4.alloc (.cells #[.nilFunc, .func (.func 45) #[] #[], .func (.func 46) #[] #[], .func (.func 47) #[] #[], .func (.func 48) #[] #[], .func (.func 49) #[] #[], .func (.func 50) #[] #[], .func (.func 51) #[] #[]] 89)) := (Below.refl _ _).alloc (Nat.le_refl _) _
  have HWB : Hid (WB (w4.alloc (.cells #[.nilFunc, .func (.func 45) #[] #[], .func (.func 46) #[] #[], .func (.func 47) #[] #[], .func (.func 48) #[] #[], .func (.func 49) #[] #[], .func (.func 50) #[] #[], .func (.func 51) #[] #[]] 89)) w4.heap.size) := heap_alloc_new w4 _
  have HB5 : Hid (Below w.heap.size w (w4.alloc (.cells #[.nilFunc, .func (.func 45) #[] #[], .func (.func 46) #[] #[], .func (.func 47) #[] #[], .func (.func 48) #[] #[], .func (.func 49) #[] #[], .func (.func 50) #[] #[], .func (.func 51) #[] #[]] 89))) := below_step HB4.out k5
  have HN5 : Hid (NB (w4.alloc (.cells #[.nilFunc, .func (.func 45) #[] #[], .func (.func 46) #[] #[], .func (.func 47) #[] #[], .func (.func 48) #[] #[], .func (.func 49) #[] #[], .func (.func 50) #[] #[], .func (.func 51) #[] #[]] 89)) A x) := HN4.out.later k5
  have HR5 : Hid (NFB (w4.alloc (.cells #[.nilFunc, .func (.func 45) #[] #[], .func (.func 46) #[] #[], .func (.func 47) #[] #[], .func (.func 48) #[] #[], .func (.func 49) #[] #[], .func (.func 50) #[] #[], .func (.func 51) #[] #[]] 89)) R ⟨0, none, 0, 0, none, 0, 0⟩) := HR4.out.later k5
  have HCW : Hid (Calls Try.prog 28 #[] w4 _) := ways_any w4
  clear k5
  go_wp2_with fail
  refine HCW.out.mono ?_
  rintro e w5 ⟨rfl, hw5⟩
  rw [← hw5] at HWB HB5 HN5 HR5
  obtain ⟨Y, hY⟩ : ∃ Y, w4.heap.size = Y := ⟨_, rfl⟩
  rw [hY] at HWB ⊢
  clear hw5 hY HCW HB4 HN4 HR4 z0 z1 z2 q0 q1 q2
  have kk : Below w5.heap.size w5 (w5.alloc (.cells #[.slice (some ⟨Y, 0, none⟩) 8 8, .int .i64 1, .slice none 0 0] 66)) := (Below.refl _ _).alloc (Nat.le_refl _) _
  have HB6 : Hid (Below w.heap.size w (w5.alloc (.cells #[.slice (some ⟨Y, 0, none⟩) 8 8, .int .i64 1, .slice none 0 0] 66))) := below_step HB5.out kk
  have HN6 : Hid (NB (w5.alloc (.cells #[.slice (some ⟨Y, 0, none⟩) 8 8, .int .i64 1, .slice none 0 0] 66)) A x) := HN5.out.later kk
  have HR6 : Hid (NFB (w5.alloc (.cells #[.slice (some ⟨Y, 0, none⟩) 8 8, .int .i64 1, .slice none 0 0] 66)) R ⟨0, none, 0, 0, none, 0, 0⟩) := HR5.out.later kk
  have HM6 : Hid (∀ b0, BB (w5.alloc (.cells #[.slice (some ⟨Y, 0, none⟩) 8 8, .int .i64 1, .slice none 0 0] 66)) b0 w5.heap.size Y ⟨1, []⟩) := fun b0 => ⟨(kk.block Y HWB.out.lt).trans HWB.out, .slice none 0 0, heap_alloc_new w5 _, rowE_nil _ _⟩
  have HBW : Hid (w.heap.size ≤ w5.heap.size) := HB5.out.size
  go_upto_region 9 with fail
  obtain ⟨w6, hw6⟩ : ∃ w6, w5.alloc (.cells #[.slice (some ⟨Y, 0, none⟩) 8 8, .int .i64 1, .slice none 0 0] 66) = w6 := ⟨_, rfl⟩
  obtain ⟨B, hB⟩ : ∃ B, w5.heap.size = B := ⟨_, rfl⟩
  have HBL : Hid (B < (w5.alloc (.cells #[.slice (some ⟨Y, 0, none⟩) 8 8, .int .i64 1, .slice none 0 0] 66)).heap.size) := by rw [← hB]; show _ < _; simp
  rw [hw6] at HB6 HN6 HR6 HM6 HBL ⊢
  rw [hB] at HM6 HBW ⊢
  clear hw6 hB kk HB5 HN5 HR5 HWB
  obtain ⟨y0, y1, y2, y3, y4, y5, y6, y7⟩ := HN6.out.cells
  have HCT : Hid (Calls Try.prog 30 #[x.val] w6 (TrimPost w6 (trim t))) := trim_any HIN.out HPV.out w6 HB6.out
  unfold Nd.val at HCT
  go_wp2_with fail
  refine HCT.out.mono ?_
  rintro e w7 ⟨k7, y, rfl, hy7⟩
  have HB7 : Hid (Below w.heap.size w w7) := below_step HB6.out k7
  have HR7 : Hid (NFB w7 R ⟨0, none, 0, 0, none, 0, 0⟩) := HR6.out.later k7
  have HM7 : Hid (BB w7 w7.heap.size B Y ⟨1, []⟩) := (HM6.out w7.heap.size).later k7
  have HY7 : Hid (NwAt (fun b => b ≠ B) w7 (trim t) y) := hy7.keep (fun b hb _ => by have := HBL.out; omega) (fun _ _ _ => rfl)
  clear k7 hy7 HCT HB6 HN6 HR6 HM6 HBL y0 y1 y2 y3 y4 y5 y6 y7
  have hTL : lay (trim t) ⟨1, []⟩ 0 = lay t ⟨1, []⟩ 0 := trim_lay _ t (Nat.le_refl _) HPV.out _ _
  have HCL : Hid (Calls Try.prog 29 #[.pointer (some ⟨B, 0, none⟩), y.val, .int .i64 ((0 : Nat) : Nat)] w7 _) := blay_any HY7.out (trim_plc HPV.out) (trim_tidy _ t (Nat.le_refl _) HPV.out) w7 w7.heap.size Y ⟨1, []⟩ 0 ⟨Nat.le_refl _, fun _ _ _ => rfl⟩ (Nat.le_refl _) (Nat.le_refl _) HM7.out (by rw [hTL]; omega) (by rw [hTL]; omega)
  rw [hTL] at HCL
  have HLT : Hid ((lay t ⟨1, []⟩ 0).2 < (lay t ⟨1, []⟩ 0).1.S) := lay_lt t ⟨1, []⟩ 0 (by decide)
  have HMA : Hid (mach t r = ⟨(lay t ⟨1, []⟩ 0).1.S, (lay t ⟨1, []⟩ 0).1.es, (List.replicate (lay t ⟨1, []⟩ 0).1.S 0).set (lay t ⟨1, []⟩ 0).2 (2 ^ r)⟩) := rfl
  obtain ⟨r1, hr1'⟩ : ∃ r1, lay t ⟨1, []⟩ 0 = r1 := ⟨_, rfl⟩
  rw [hr1'] at HCL HLT HMA hbS hbE
  obtain ⟨mk, en⟩ := r1
  obtain ⟨S, es⟩ := mk
  simp only at HCL HLT HMA hbS hbE
  clear hr1' hTL HY7
  unfold Nd.val at HCL
  unfold Nd.val
  simp only [Int.natCast_zero] at HCL
  go_wp2_with fail
  refine HCL.out.mono ?_
  rintro e w6 ⟨rfl, h6, f6⟩
  have HM6 : Hid (BB w6 w7.heap.size B Y ⟨S, es⟩) := h6
  have HR6 : Hid (NFB w6 R ⟨0, none, 0, 0, none, 0, 0⟩) := f6.keep HR7.out (HM7.out.ne HR7.out.ty (by decide)) (by decide)
  have HB6 : Hid (Below w.heap.size w w6) := ⟨f6.os.trans HB7.out.os, f6.tape.trans HB7.out.tape, f6.output.trans HB7.out.output, Nat.le_trans HB7.out.size f6.size, fun k hk => (f6.block k (Nat.lt_of_lt_of_le hk HB7.out.size) (by have := HBW.out; omega) (fun h => by have := HB7.out.size; omega)).trans (HB7.out.block k hk)⟩
  have HW7 : Hid (w.heap.size ≤ w7.heap.size) := HB7.out.size
  clear h6 f6 HCL HR7 HB7 HM7
  have hen : en < S := HLT.out
  have hen' : (en : Int) < (S : Int) := by omega
  obtain ⟨o, c, cw, c0, c1⟩ := HM6.out.cells
  simp only at c0 c1
  go_upto_region 12 with (first | (refine wpList_make_u32 rfl _ _ rfl w.heap.size S HB6.out.size rfl rfl (by omega) ?_; intro v7 hn7 hb7; have HUQ : Hid (RowU v7 w.heap.size _ (List.replicate S 0)) := hn7; have HKQ : Hid (Below w6.heap.size w6 v7) := hb7; obtain ⟨p0, p1⟩ := RowU.cell hn7 (i := en) (x := 0) (by rw [List.getElem?_replicate, if_pos HLT.out]); clear hn7 hb7) | fail)
  have h2r : (2 ^ r : Int) % 4294967296 = ((2 ^ r : Nat) : Int) := by
    have h1 : 2 ^ r ≤ 2 ^ 31 := Nat.pow_le_pow_right (by decide) hr31
    have h2 : ((2 ^ r : Nat) : Int) = (2 ^ r : Int) := by push_cast; rfl
    rw [← h2]
    obtain ⟨q, hq⟩ : ∃ q, 2 ^ r = q := ⟨_, rfl⟩
    rw [hq] at h1 ⊢
    simp at h1
    omega
  rw [h2r]
  obtain ⟨G, hG⟩ : ∃ G, w6.heap.size = G := ⟨_, rfl⟩
  rw [hG] at HUQ ⊢
  have hG0 : w.heap.size ≤ G := by rw [← hG]; exact HB6.out.size
  have HU8 : Hid (RowU (v7.setCell ⟨G, en, none⟩ (.int .u32 ((2 ^ r : Nat) : Nat))) w.heap.size (.slice (some ⟨G, 0, none⟩) S S) ((List.replicate S 0).set en (2 ^ r))) := HUQ.out.put en (2 ^ r)
  have HTG : Hid (TyB v7 44 G) := (HUQ.out.ty G rfl).2
  have HM8 : Hid (RowE (v7.setCell ⟨G, en, none⟩ (.int .u32 ((2 ^ r : Nat) : Nat))) w.heap.size (.slice o es.length c) es ∧ (v7.setCell ⟨G, en, none⟩ (.int .u32 ((2 ^ r : Nat) : Nat))).heap[B]? = some (.cells #[.slice (some ⟨Y, 0, none⟩) 8 8, .int .i64 (S : Nat), .slice o es.length c] 66 (0, 0))) := by
    obtain ⟨_, V, h1, h2⟩ := HM6.out
    have hV : V = .slice o es.length c := by
      simp only [World.cell?, h1] at c1
      simpa using c1
    subst hV
    have h1' := (HKQ.out.block B HM6.out.lt).trans h1
    refine ⟨((h2.low HW7.out).later HKQ.out).set HTG.out (by decide) _ _, (Below.heap_setCell v7 ⟨G, en, none⟩ _ B (fun e => ?_)).trans h1'⟩
    have e : B = G := e
    exact absurd (TyB.ne ⟨_, _, h1'⟩ (e ▸ HTG.out)) (by decide)
  have HR8 : Hid (NFB (v7.setCell ⟨G, en, none⟩ (.int .u32 ((2 ^ r : Nat) : Nat))) R ⟨0, none, 0, 0, none, 0, 0⟩) := (Below.heap_setCell v7 ⟨G, en, none⟩ _ R (fun e => by have e : R = G := e; exact absurd (TyB.ne (HR6.out.later HKQ.out).ty (e ▸ HTG.out)) (by decide))).trans (HR6.out.later HKQ.out)
  have HB8 : Hid (Below w.heap.size w (v7.setCell ⟨G, en, none⟩ (.int .u32 ((2 ^ r : Nat) : Nat)))) := (below_step HB6.out HKQ.out).setCell (p := ⟨G, en, none⟩) hG0 _
  obtain ⟨w8, hw8⟩ : ∃ w8, v7.setCell ⟨G, en, none⟩ (.int .u32 ((2 ^ r : Nat) : Nat)) = w8 := ⟨_, rfl⟩
  rw [hw8] at HU8 HM8 HR8 HB8 ⊢
  clear cw hw8 hG HUQ HTG HM6 HR6 HB6 HKQ c0 c1 h2r hG0 p0 p1
  obtain ⟨N, hN⟩ : ∃ N, es.length = N := ⟨_, rfl⟩
  rw [hN] at HM8
  have HNN : Hid (es.length = N) := hN
  clear hN
  have c0 : w8.cell? ⟨B, 1, none⟩ = some (.int .i64 (S : Nat)) := by simp [World.cell?, HM8.out.2]
  have c1 : w8.cell? ⟨B, 2, none⟩ = some (.slice o N c) := by simp [World.cell?, HM8.out.2]
  obtain ⟨z0, z1, z2⟩ := HR8.out.cells
  simp only at z0 z1 z2
  have q0 := HR8.out.frozen 0
  have q1 := HR8.out.frozen 1
  have q2 := HR8.out.frozen 2
  have HF : Hid (BuildOwn w t ((r : Nat) : Int) (.returned (.tuple #[Nf.val ⟨(S : Nat), o, N, c, some ⟨G, 0, none⟩, S, S⟩, .int .i64 ((0 : Nat) : Nat)])) (put3 w8 R ⟨(S : Nat), o, N, c, some ⟨G, 0, none⟩, S, S⟩)) := by
    unfold BuildOwn
    rw [HBO.out]
    refine ⟨below_put3 HB8.out HRR2.out _, _, rfl, ?_⟩
    rw [HMA.out]
    have hkE : ∀ k, k ≠ R → (put3 w8 R ⟨(S : Nat), o, N, c, some ⟨G, 0, none⟩, S, S⟩).heap[k]? = w8.heap[k]? := fun k hk => heap_put3 w8 R _ k hk
    have h1 := (HM8.out.1.keep (w' := put3 w8 R ⟨(S : Nat), o, N, c, some ⟨G, 0, none⟩, S, S⟩) (fun b _ _ hb => hkE b (fun e => absurd (TyB.ne hb (e ▸ HR8.out.ty)) (by decide))))
    have h2 := (HU8.out.keep (w' := put3 w8 R ⟨(S : Nat), o, N, c, some ⟨G, 0, none⟩, S, S⟩) (fun b _ _ hb => hkE b (fun e => absurd (TyB.ne hb (e ▸ HR8.out.ty)) (by decide))))
    exact ⟨rfl, h1, h2⟩
  have HG : Hid (NFB (put3 w8 R ⟨(S : Nat), o, N, c, some ⟨G, 0, none⟩, S, S⟩) R ⟨(S : Nat), o, N, c, some ⟨G, 0, none⟩, S, S⟩) := NFB.put3 (w := w8) (y := ⟨0, none, 0, 0, none, 0, 0⟩) HR8.out _
  unfold put3 at HF HG
  simp only at HF HG
  go_wp2
  exact post_pbuild (y := ⟨(S : Nat), o, N, c, some ⟨G, 0, none⟩, S, S⟩) rfl rfl rfl HG.out HF.out
end Go.Proofs.Ytjmbimgofceanaa

