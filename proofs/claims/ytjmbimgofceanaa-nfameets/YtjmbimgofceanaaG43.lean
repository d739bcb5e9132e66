/- NfaMeets answers true for every two texts and every number (P7.1, P7.4, the theorem of this layer: the machine of a pattern that is read, for the rule that the number's remainder by 32 is, fits, has as many states as the tree has places, and, unless the tree is gone through more than 4000 times, meets that rule, and no other one, in the line's first 60 bytes just if the tree takes a piece of them), and leaves its arguments as they were. Conditions: the row's own reach. -/
import Derived.Test.YtjmbimgofceanaaG33
import Derived.Test.YtjmbimgofceanaaG40
import Derived.Test.YtjmbimgofceanaaG42
import Derived.Test.YtjmbimgofceanaaG28
import Derived.Test.YtjmbimgofceanaaG29
import Derived.Test.YtjmbimgofceanaaG34
import Derived.Test.YtjmbimgofceanaaG35
import Derived.Test.YtjmbimgofceanaaG37
import Derived.Test.YtjmbimgofceanaaG06
namespace Go.Proofs.Ytjmbimgofceanaa
open Go.RowKit
attribute [local go_sem ↓] Go.wp_at_zero Go.wp_at_succ

theorem res_pbuild {tmps : Array Value} {w : World} {R : Nat} {y : Nf} {v5 : Value} (h4 : tmps[4]?.getD undef = .pointer (some ⟨R, 0, none⟩)) (h5 : tmps[5]?.getD undef = v5) (hR : NFB w R y) : (results Try.f11 tmps).run Try.prog w = .ok (.tuple #[y.val, v5]) w := by
  obtain ⟨t0, t1, t2⟩ := hR.cells
  unfold Nf.val
  simp [results, Try.results11, go_sem, h4, h5, t0, t1, t2]
theorem post_pbuild {Q : Ending → World → Prop} {a : Act} {w : World} {R : Nat} {y : Nf} {v5 : Value} (hd : a.defers = []) (h4 : a.tmps[4]?.getD undef = .pointer (some ⟨R, 0, none⟩)) (h5 : a.tmps[5]?.getD undef = v5) (hR : NFB w R y) (hQ : Q (.returned (.tuple #[y.val, v5])) w) : bodyPost Try.prog Try.f11 Q .ret a w :=
  bodyPost_ret (res_pbuild h4 h5 hR) hd hQ
theorem RowE.low {w : World} {base b : Nat} {V : Value} {es : List Eg} (h : RowE w base V es) (hb : b ≤ base) : RowE w b V es := by
  refine ⟨h.1, ?_⟩
  rcases h.2 with h6 | ⟨g, cap, cur, hv, hBg, rest⟩
  · exact Or.inl h6
  · exact Or.inr ⟨g, cap, cur, hv, Nat.le_trans hb hBg, rest⟩
/-- the table of ways, made -/
theorem ways_any (w : World) : Calls Try.prog 28 #[] w fun e w' => e = .returned (.slice (some ⟨w.heap.size, 0, none⟩) 8 8) ∧ w' = w.alloc (.cells #[.nilFunc, .func (.func 45) #[] #[], .func (.func 46) #[] #[], .func (.func 47) #[] #[], .func (.func 48) #[] #[], .func (.func 49) #[] #[], .func (.func 50) #[] #[], .func (.func 51) #[] #[]] 89) := by
  go_enter Try.func28, Try.ntmps28
  go_wp2
  go_ret
  exact ⟨rfl, rfl⟩
set_option maxRecDepth 4000 in
set_option maxHeartbeats 16000000 in
theorem pbuild_any {t : Tn} {x : Nd} (w : World) (h : InAt w t x) (rule : Int) : Calls Try.prog 11 #[x.val, .int .i64 rule] w (BuildPost w t rule) := by
  have kk : Below w.heap.size w ((w.alloc (.cells #[.int .i64 x.k, .int .u64 (Oct.word x.s 0 : Nat), .int .u64 (Oct.word x.s 1 : Nat), .int .u64 (Oct.word x.s 2 : Nat), .int .u64 (Oct.word x.s 3 : Nat), .slice x.a x.n x.c, .int .i64 x.mn, .int .i64 x.mx] 30)).alloc (.cells #[.int .i64 0, .slice none 0 0, .slice none 0 0] 38)) := ((Below.refl _ _).alloc (Nat.le_refl _) _).alloc (by simp) _
  have HNB : Hid (NB ((w.alloc (.cells #[.int .i64 x.k, .int .u64 (Oct.word x.s 0 : Nat), .int .u64 (Oct.word x.s 1 : Nat), .int .u64 (Oct.word x.s 2 : Nat), .int .u64 (Oct.word x.s 3 : Nat), .slice x.a x.n x.c, .int .i64 x.mn, .int .i64 x.mx] 30)).alloc (.cells #[.int .i64 0, .slice none 0 0, .slice none 0 0] 38)) w.heap.size x) := (nb_new w x).later ((Below.refl _ _).alloc (Nat.le_refl _) _)
  have HRB : Hid (NFB ((w.alloc (.cells #[.int .i64 x.k, .int .u64 (Oct.word x.s 0 : Nat), .int .u64 (Oct.word x.s 1 : Nat), .int .u64 (Oct.word x.s 2 : Nat), .int .u64 (Oct.word x.s 3 : Nat), .slice x.a x.n x.c, .int .i64 x.mn, .int .i64 x.mx] 30)).alloc (.cells #[.int .i64 0, .slice none 0 0, .slice none 0 0] 38)) (w.heap.size + 1) ⟨0, none, 0, 0, none, 0, 0⟩) := by
    have h1 := nfb_new (w.alloc (.cells #[.int .i64 x.k, .int .u64 (Oct.word x.s 0 : Nat), .int .u64 (Oct.word x.s 1 : Nat), .int .u64 (Oct.word x.s 2 : Nat), .int .u64 (Oct.word x.s 3 : Nat), .slice x.a x.n x.c, .int .i64 x.mn, .int .i64 x.mx] 30)) ⟨0, none, 0, 0, none, 0, 0⟩
    rw [show (w.alloc (.cells #[.int .i64 x.k, .int .u64 (Oct.word x.s 0 : Nat), .int .u64 (Oct.word x.s 1 : Nat), .int .u64 (Oct.word x.s 2 : Nat), .int .u64 (Oct.word x.s 3 : Nat), .slice x.a x.n x.c, .int .i64 x.mn, .int .i64 x.mx] 30)).heap.size = w.heap.size + 1 by simp] at h1
    exact h1
  have HB : Hid (Below w.heap.size w ((w.alloc (.cells #[.int .i64 x.k, .int .u64 (Oct.word x.s 0 : Nat), .int .u64 (Oct.word x.s 1 : Nat), .int .u64 (Oct.word x.s 2 : Nat), .int .u64 (Oct.word x.s 3 : Nat), .slice x.a x.n x.c, .int .i64 x.mn, .int .i64 x.mx] 30)).alloc (.cells #[.int .i64 0, .slice none 0 0, .slice none 0 0] 38))) := kk
  obtain ⟨w2, hw2⟩ : ∃ w2, (w.alloc (.cells #[.int .i64 x.k, .int .u64 (Oct.word x.s 0 : Nat), .int .u64 (Oct.word x.s 1 : Nat), .int .u64 (Oct.word x.s 2 : Nat), .int .u64 (Oct.word x.s 3 : Nat), .slice x.a x.n x.c, .int .i64 x.mn, .int .i64 x.mx] 30)).alloc (.cells #[.int .i64 0, .slice none 0 0, .slice none 0 0] 38) = w2 := ⟨_, rfl⟩
  rw [hw2] at HNB HRB HB
  obtain ⟨A, hA⟩ : ∃ A, w.heap.size = A := ⟨_, rfl⟩
  obtain ⟨R, hR⟩ : ∃ R, w.heap.size + 1 = R := ⟨_, rfl⟩
  rw [hA] at HNB
  rw [hR] at HRB
  have HW2 : Hid ((w.alloc (.cells #[.int .i64 x.k, .int .u64 (Oct.word x.s 0 : Nat), .int .u64 (Oct.word x.s 1 : Nat), .int .u64 (Oct.word x.s 2 : Nat), .int .u64 (Oct.word x.s 3 : Nat), .slice x.a x.n x.c, .int .i64 x.mn, .int .i64 x.mx] 30)).alloc (.cells #[.int .i64 0, .slice none 0 0, .slice none 0 0] 38) = w2) := hw2
  have HAA : Hid (w.heap.size = A) := hA
  have HRR : Hid (w.heap.size + 1 = R) := hR
  have HRR2 : Hid (w.heap.size ≤ R) := by show _ ≤ _; omega
  have HIN : Hid (InAt w t x) := h
  clear hw2 hA hR kk h
  have HRS : Hid (∀ u : World, InAt u t x → Calls Try.prog 13 #[x.val] u fun e w' => e = .returned (.int .i64 (placesOf t : Nat)) ∧ Below u.heap.size u w') := fun u hu => Places_any u hu
  obtain ⟨y0, y1, y2, y3, y4, y5, y6, y7⟩ := HNB.out.cells
  have HCP : Hid (Calls Try.prog 13 #[x.val] w2 _) := HRS.out w2 (HIN.out.later HB.out)
  obtain ⟨P, hP⟩ : ∃ P, placesOf t = P := ⟨_, rfl⟩
  rw [hP] at HCP
  have HPP : Hid (placesOf t = P) := hP
  clear hP HRS
  unfold Nd.val at HCP
  unfold Nd.val
  go_enter Try.func11, Try.ntmps11
  go_upto_region 1 with fail
  rw [HW2.out, HRR.out, HAA.out]
  clear HW2
  go_wp2_with fail
  refine HCP.out.mono ?_
  rintro e w4 ⟨rfl, k4⟩
  have HB4 : Hid (Below w.heap.size w w4) := below_step HB.out k4
  have HN4 : Hid (NB w4 A x) := HNB.out.later k4
  have HR4 : Hid (NFB w4 R ⟨0, none, 0, 0, none, 0, 0⟩) := HRB.out.later k4
  clear k4 HB HNB HRB HCP y0 y1 y2 y3 y4 y5 y6 y7
  obtain ⟨z0, z1, z2⟩ := HR4.out.cells
  simp only at z0 z1 z2
  have q0 := HR4.out.frozen 0
  have q1 := HR4.out.frozen 1
  have q2 := HR4.out.frozen 2
  obtain ⟨V, hV⟩ : ∃ V, (plc t).2 = V := ⟨_, rfl⟩
  cases V with
  | false =>
    have hP0 : P = 0 := by rw [← HPP.out]; unfold placesOf; rw [hV]; rfl
    have HF : Hid (BuildPost w t rule (.returned (.tuple #[Nf.val ⟨0, none, 0, 0, none, 0, 0⟩, .int .i64 ((50 : Nat) : Nat)])) (put3 w4 R ⟨0, none, 0, 0, none, 0, 0⟩)) := build_no HB4.out HRR2.out (by unfold buildOf; rw [if_pos hV])
    have HG : Hid (NFB (put3 w4 R ⟨0, none, 0, 0, none, 0, 0⟩) R ⟨0, none, 0, 0, none, 0, 0⟩) := HR4.out.put3 _
    unfold put3 at HF HG
    simp only at HF HG
    subst hP0
    go_wp2
    exact post_pbuild (y := ⟨0, none, 0, 0, none, 0, 0⟩) rfl rfl rfl HG.out HF.out
  | true =>
  have HPV : Hid ((plc t).2 = true) := hV
  have hP1 : 1 ≤ P := by rw [← HPP.out]; unfold placesOf; rw [hV]; exact Nat.succ_le_succ (Nat.zero_le _)
  have hP0 : ((P : Int) == 0) = false := by rw [beq_eq_false_iff_ne]; omega
  clear hV
  by_cases hP2 : 2048 < P
  · have hP3 : (2048 : Int) < (P : Int) := by omega
    have HF : Hid (BuildPost w t rule (.returned (.tuple #[Nf.val ⟨0, none, 0, 0, none, 0, 0⟩, .int .i64 ((48 : Nat) : Nat)])) (put3 w4 R ⟨0, none, 0, 0, none, 0, 0⟩)) := build_no HB4.out HRR2.out (by unfold buildOf; rw [if_neg (by rw [HPV.out]; decide), if_pos (by rw [HPP.out]; exact hP2)])
    have HG : Hid (NFB (put3 w4 R ⟨0, none, 0, 0, none, 0, 0⟩) R ⟨0, none, 0, 0, none, 0, 0⟩) := HR4.out.put3 _
    unfold put3 at HF HG
    simp only at HF HG
    go_wp2
    exact post_pbuild (y := ⟨0, none, 0, 0, none, 0, 0⟩) rfl rfl rfl HG.out HF.out
  have hP3 : ¬ (2048 : Int) < (P : Int) := by omega
  by_cases hr : rule < 0 ∨ 31 < rule
  · have HF : Hid (BuildPost w t rule (.returned (.tuple #[Nf.val ⟨0, none, 0, 0, none, 0, 0⟩, .int .i64 ((1 : Nat) : Nat)])) (put3 w4 R ⟨0, none, 0, 0, none, 0, 0⟩)) := build_no HB4.out HRR2.out (by unfold buildOf; rw [if_neg (by rw [HPV.out]; decide), if_neg (by rw [HPP.out]; exact hP2), if_pos hr])
    have HG : Hid (NFB (put3 w4 R ⟨0, none, 0, 0, none, 0, 0⟩) R ⟨0, none, 0, 0, none, 0, 0⟩) := HR4.out.put3 _
    unfold put3 at HF HG
    simp only at HF HG
    by_cases hr0 : rule < 0
    · go_wp2
      exact post_pbuild (y := ⟨0, none, 0, 0, none, 0, 0⟩) rfl rfl rfl HG.out HF.out
    · have hr1 : 32 ≤ rule := by omega
      go_wp2
      exact post_pbuild (y := ⟨0, none, 0, 0, none, 0, 0⟩) rfl rfl rfl HG.out HF.out
  obtain ⟨r, rfl⟩ : ∃ r : Nat, rule = (r : Nat) := ⟨rule.toNat, by omega⟩
  have hr31 : r ≤ 31 := by omega
  have hr0 : ¬ ((r : Nat) : Int) < 0 := by omega
  have hr1 : ¬ (32 : Int) ≤ ((r : Nat) : Int) := by omega
  clear hr
  have HBO : Hid (buildOf t ((r : Nat) : Int) = (mach t r, 0)) := by
    show _ = _
    unfold buildOf
    rw [if_neg (by rw [HPV.out]; decide), if_neg (by rw [HPP.out]; exact hP2), if_neg (by omega), Int.toNat_natCast]
  obtain ⟨hbS, hbE⟩ := lay_bounds HPV.out (by rw [HPP.out]; exact hP2)
  have k5 : Below w4.heap.size w4 (w4.alloc (.cells #[.nilFunc, .func (.func 45) #[] #[], .func (.func 46) #[] #[], .func (.func 47) #[] #[], .func (.func 48) #[] #[], .func (.func 49) #[] #[], .func (.func 50) #[] #[], .func (.func 51) #[] #[]] 89)) := (Below.refl _ _).alloc (Nat.le_refl _) _
  have HWB : Hid (WB (w4.alloc (.cells #[.nilFunc, .func (.func 45) #[] #[], .func (.func 46) #[] #[], .func (.func 47) #[] #[], .func (.func 48) #[] #[], .func (.func 49) #[] #[], .func (.func 50) #[] #[], .func (.func 51) #[] #[]] 89)) w4.heap.size) := heap_alloc_new w4 _
  have HB5 : Hid (Below w.heap.size w (w4.alloc (.cells #[.nilFunc, .func (.func 45) #[] #[], .func (.func 46) #[] #[], .func (.func 47) #[] #[], .func (.func 48) #[] #[], .func (.func 49) #[] #[], .func (.func 50) #[] #[], .func (.func 51) #[] #[]] 89))) := below_step HB4.out k5
  have HN5 : Hid (NB (w4.alloc (.cells #[.nilFunc, .func (.func 45) #[] #[], .func (.func 46) #[] #[], .func (.func 47) #[] #[], .func (.func 48) #[] #[], .func (.func 49) #[] #[], .func (.func 50) #[] #[], .func (.func 51) #[] #[]] 89)) A x) := HN4.out.later k5
  have HR5 : Hid (NFB (w4.alloc (.cells #[.nilFunc, .func (.func 45) #[] #[], .func (.func 46) #[] #[], .func (.func 47) #[] #[], .func (.func 48) #[] #[], .func (.func 49) #[] #[], .func (.func 50) #[] #[], .func (.func 51) #[] #[]] 89)) R ⟨0, none, 0, 0, none, 0, 0⟩) := HR4.out.later k5
  have HCW : Hid (Calls Try.prog 28 #[] w4 _) := ways_any w4
  clear k5
  go_wp2_with fail
  refine HCW.out.mono ?_
  rintro e w5 ⟨rfl, hw5⟩
  rw [← hw5] at HWB HB5 HN5 HR5
  obtain ⟨Y, hY⟩ : ∃ Y, w4.heap.size = Y := ⟨_, rfl⟩
  rw [hY] at HWB ⊢
  clear hw5 hY HCW HB4 HN4 HR4 z0 z1 z2 q0 q1 q2
  have kk : Below w5.heap.size w5 (w5.alloc (.cells #[.slice (some ⟨Y, 0, none⟩) 8 8, .int .i64 1, .slice none 0 0] 66)) := (Below.refl _ _).alloc (Nat.le_refl _) _
  have HB6 : Hid (Below w.heap.size w (w5.alloc (.cells #[.slice (some ⟨Y, 0, none⟩) 8 8, .int .i64 1, .slice none 0 0] 66))) := below_step HB5.out kk
  have HN6 : Hid (NB (w5.alloc (.cells #[.slice (some ⟨Y, 0, none⟩) 8 8, .int .i64 1, .slice none 0 0] 66)) A x) := HN5.out.later kk
  have HR6 : Hid (NFB (w5.alloc (.cells #[.slice (some ⟨Y, 0, none⟩) 8 8, .int .i64 1, .slice none 0 0] 66)) R ⟨0, none, 0, 0, none, 0, 0⟩) := HR5.out.later kk
  have HM6 : Hid (∀ b0, BB (w5.alloc (.cells #[.slice (some ⟨Y, 0, none⟩) 8 8, .int .i64 1, .slice none 0 0] 66)) b0 w5.heap.size Y ⟨1, []⟩) := fun b0 => ⟨(kk.block Y HWB.out.lt).trans HWB.out, .slice none 0 0, heap_alloc_new w5 _, rowE_nil _ _⟩
  have HBW : Hid (w.heap.size ≤ w5.heap.size) := HB5.out.size
  go_upto_region 9 with fail
  obtain ⟨w6, hw6⟩ : ∃ w6, w5.alloc (.cells #[.slice (some ⟨Y, 0, none⟩) 8 8, .int .i64 1, .slice none 0 0] 66) = w6 := ⟨_, rfl⟩
  obtain ⟨B, hB⟩ : ∃ B, w5.heap.size = B := ⟨_, rfl⟩
  have HBL : Hid (B < (w5.alloc (.cells #[.slice (some ⟨Y, 0, none⟩) 8 8, .int .i64 1, .slice none 0 0] 66)).heap.size) := by rw [← hB]; show _ < _; simp
  rw [hw6] at HB6 HN6 HR6 HM6 HBL ⊢
  rw [hB] at HM6 HBW ⊢
  clear hw6 hB kk HB5 HN5 HR5 HWB
  obtain ⟨y0, y1, y2, y3, y4, y5, y6, y7⟩ := HN6.out.cells
  have HCT : Hid (Calls Try.prog 30 #[x.val] w6 (TrimPost w6 (trim t))) := trim_any HIN.out HPV.out w6 HB6.out
  unfold Nd.val at HCT
  go_wp2_with fail
  refine HCT.out.mono ?_
  rintro e w7 ⟨k7, y, rfl, hy7⟩
  have HB7 : Hid (Below w.heap.size w w7) := below_step HB6.out k7
  have HR7 : Hid (NFB w7 R ⟨0, none, 0, 0, none, 0, 0⟩) := HR6.out.later k7
  have HM7 : Hid (BB w7 w7.heap.size B Y ⟨1, []⟩) := (HM6.out w7.heap.size).later k7
  have HY7 : Hid (NwAt (fun b => b ≠ B) w7 (trim t) y) := hy7.keep (fun b hb _ => by have := HBL.out; omega) (fun _ _ _ => rfl)
  clear k7 hy7 HCT HB6 HN6 HR6 HM6 HBL y0 y1 y2 y3 y4 y5 y6 y7
  have hTL : lay (trim t) ⟨1, []⟩ 0 = lay t ⟨1, []⟩ 0 := trim_lay _ t (Nat.le_refl _) HPV.out _ _
  have HCL : Hid (Calls Try.prog 29 #[.pointer (some ⟨B, 0, none⟩), y.val, .int .i64 ((0 : Nat) : Nat)] w7 _) := blay_any HY7.out (trim_plc HPV.out) (trim_tidy _ t (Nat.le_refl _) HPV.out) w7 w7.heap.size Y ⟨1, []⟩ 0 ⟨Nat.le_refl _, fun _ _ _ => rfl⟩ (Nat.le_refl _) (Nat.le_refl _) HM7.out (by rw [hTL]; omega) (by rw [hTL]; omega)
  rw [hTL] at HCL
  have HLT : Hid ((lay t ⟨1, []⟩ 0).2 < (lay t ⟨1, []⟩ 0).1.S) := lay_lt t ⟨1, []⟩ 0 (by decide)
  have HMA : Hid (mach t r = ⟨(lay t ⟨1, []⟩ 0).1.S, (lay t ⟨1, []⟩ 0).1.es, (List.replicate (lay t ⟨1, []⟩ 0).1.S 0).set (lay t ⟨1, []⟩ 0).2 (2 ^ r)⟩) := rfl
  obtain ⟨r1, hr1'⟩ : ∃ r1, lay t ⟨1, []⟩ 0 = r1 := ⟨_, rfl⟩
  rw [hr1'] at HCL HLT HMA hbS hbE
  obtain ⟨mk, en⟩ := r1
  obtain ⟨S, es⟩ := mk
  simp only at HCL HLT HMA hbS hbE
  clear hr1' hTL HY7
  unfold Nd.val at HCL
  unfold Nd.val
  simp only [Int.natCast_zero] at HCL
  go_wp2_with fail
  refine HCL.out.mono ?_
  rintro e w6 ⟨rfl, h6, f6⟩
  have HM6 : Hid (BB w6 w7.heap.size B Y ⟨S, es⟩) := h6
  have HR6 : Hid (NFB w6 R ⟨0, none, 0, 0, none, 0, 0⟩) := f6.keep HR7.out (HM7.out.ne HR7.out.ty (by decide)) (by decide)
  have HB6 : Hid (Below w.heap.size w w6) := ⟨f6.os.trans HB7.out.os, f6.tape.trans HB7.out.tape, f6.output.trans HB7.out.output, Nat.le_trans HB7.out.size f6.size, fun k hk => (f6.block k (Nat.lt_of_lt_of_le hk HB7.out.size) (by have := HBW.out; omega) (fun h => by have := HB7.out.size; omega)).trans (HB7.out.block k hk)⟩
  have HW7 : Hid (w.heap.size ≤ w7.heap.size) := HB7.out.size
  clear h6 f6 HCL HR7 HB7 HM7
  have hen : en < S := HLT.out
  have hen' : (en : Int) < (S : Int) := by omega
  obtain ⟨o, c, cw, c0, c1⟩ := HM6.out.cells
  simp only at c0 c1
  go_upto_region 12 with (first | (refine wpList_make_u32 rfl _ _ rfl w.heap.size S HB6.out.size rfl rfl (by omega) ?_; intro v7 hn7 hb7; have HUQ : Hid (RowU v7 w.heap.size _ (List.replicate S 0)) := hn7; have HKQ : Hid (Below w6.heap.size w6 v7) := hb7; obtain ⟨p0, p1⟩ := RowU.cell hn7 (i := en) (x := 0) (by rw [List.getElem?_replicate, if_pos HLT.out]); clear hn7 hb7) | fail)
  have h2r : (2 ^ r : Int) % 4294967296 = ((2 ^ r : Nat) : Int) := by
    have h1 : 2 ^ r ≤ 2 ^ 31 := Nat.pow_le_pow_right (by decide) hr31
    have h2 : ((2 ^ r : Nat) : Int) = (2 ^ r : Int) := by push_cast; rfl
    rw [← h2]
    obtain ⟨q, hq⟩ : ∃ q, 2 ^ r = q := ⟨_, rfl⟩
    rw [hq] at h1 ⊢
    simp at h1
    omega
  rw [h2r]
  obtain ⟨G, hG⟩ : ∃ G, w6.heap.size = G := ⟨_, rfl⟩
  rw [hG] at HUQ ⊢
  have hG0 : w.heap.size ≤ G := by rw [← hG]; exact HB6.out.size
  have HU8 : Hid (RowU (v7.setCell ⟨G, en, none⟩ (.int .u32 ((2 ^ r : Nat) : Nat))) w.heap.size (.slice (some ⟨G, 0, none⟩) S S) ((List.replicate S 0).set en (2 ^ r))) := HUQ.out.put en (2 ^ r)
  have HTG : Hid (TyB v7 44 G) := (HUQ.out.ty G rfl).2
  have HM8 : Hid (RowE (v7.setCell ⟨G, en, none⟩ (.int .u32 ((2 ^ r : Nat) : Nat))) w.heap.size (.slice o es.length c) es ∧ (v7.setCell ⟨G, en, none⟩ (.int .u32 ((2 ^ r : Nat) : Nat))).heap[B]? = some (.cells #[.slice (some ⟨Y, 0, none⟩) 8 8, .int .i64 (S : Nat), .slice o es.length c] 66 (0, 0))) := by
    obtain ⟨_, V, h1, h2⟩ := HM6.out
    have hV : V = .slice o es.length c := by
      simp only [World.cell?, h1] at c1
      simpa using c1
    subst hV
    have h1' := (HKQ.out.block B HM6.out.lt).trans h1
    refine ⟨((h2.low HW7.out).later HKQ.out).set HTG.out (by decide) _ _, (Below.heap_setCell v7 ⟨G, en, none⟩ _ B (fun e => ?_)).trans h1'⟩
    have e : B = G := e
    exact absurd (TyB.ne ⟨_, _, h1'⟩ (e ▸ HTG.out)) (by decide)
  have HR8 : Hid (NFB (v7.setCell ⟨G, en, none⟩ (.int .u32 ((2 ^ r : Nat) : Nat))) R ⟨0, none, 0, 0, none, 0, 0⟩) := (Below.heap_setCell v7 ⟨G, en, none⟩ _ R (fun e => by have e : R = G := e; exact absurd (TyB.ne (HR6.out.later HKQ.out).ty (e ▸ HTG.out)) (by decide))).trans (HR6.out.later HKQ.out)
  have HB8 : Hid (Below w.heap.size w (v7.setCell ⟨G, en, none⟩ (.int .u32 ((2 ^ r : Nat) : Nat)))) := (below_step HB6.out HKQ.out).setCell (p := ⟨G, en, none⟩) hG0 _
  obtain ⟨w8, hw8⟩ : ∃ w8, v7.setCell ⟨G, en, none⟩ (.int .u32 ((2 ^ r : Nat) : Nat)) = w8 := ⟨_, rfl⟩
  rw [hw8] at HU8 HM8 HR8 HB8 ⊢
  clear cw hw8 hG HUQ HTG HM6 HR6 HB6 HKQ c0 c1 h2r hG0 p0 p1
  obtain ⟨N, hN⟩ : ∃ N, es.length = N := ⟨_, rfl⟩
  rw [hN] at HM8
  have HNN : Hid (es.length = N) := hN
  clear hN
  have c0 : w8.cell? ⟨B, 1, none⟩ = some (.int .i64 (S : Nat)) := by simp [World.cell?, HM8.out.2]
  have c1 : w8.cell? ⟨B, 2, none⟩ = some (.slice o N c) := by simp [World.cell?, HM8.out.2]
  obtain ⟨z0, z1, z2⟩ := HR8.out.cells
  simp only at z0 z1 z2
  have q0 := HR8.out.frozen 0
  have q1 := HR8.out.frozen 1
  have q2 := HR8.out.frozen 2
  have HF : Hid (BuildPost w t ((r : Nat) : Int) (.returned (.tuple #[Nf.val ⟨(S : Nat), o, N, c, some ⟨G, 0, none⟩, S, S⟩, .int .i64 ((0 : Nat) : Nat)])) (put3 w8 R ⟨(S : Nat), o, N, c, some ⟨G, 0, none⟩, S, S⟩)) := by
    unfold BuildPost
    rw [HBO.out]
    refine ⟨below_put3 HB8.out HRR2.out _, _, rfl, ?_⟩
    rw [HMA.out]
    have hkE : ∀ k, k ≠ R → (put3 w8 R ⟨(S : Nat), o, N, c, some ⟨G, 0, none⟩, S, S⟩).heap[k]? = w8.heap[k]? := fun k hk => heap_put3 w8 R _ k hk
    have h1 := (HM8.out.1.keep (w' := put3 w8 R ⟨(S : Nat), o, N, c, some ⟨G, 0, none⟩, S, S⟩) (fun b _ _ hb => hkE b (fun e => absurd (TyB.ne hb (e ▸ HR8.out.ty)) (by decide))))
    have h2 := (HU8.out.keep (w' := put3 w8 R ⟨(S : Nat), o, N, c, some ⟨G, 0, none⟩, S, S⟩) (fun b _ _ hb => hkE b (fun e => absurd (TyB.ne hb (e ▸ HR8.out.ty)) (by decide))))
    exact ⟨rfl, h1.at.1, h2.at.1, h1.at2.keep (fun b hb _ => ⟨hb.1, fun h => absurd (TyB.ne hb.2 h) (by decide)⟩) (fun _ _ _ => rfl), h2.at2.keep (fun b hb _ => ⟨hb.1, fun h => absurd (TyB.ne hb.2 h) (by decide)⟩) (fun _ _ _ => rfl)⟩
  have HG : Hid (NFB (put3 w8 R ⟨(S : Nat), o, N, c, some ⟨G, 0, none⟩, S, S⟩) R ⟨(S : Nat), o, N, c, some ⟨G, 0, none⟩, S, S⟩) := NFB.put3 (w := w8) (y := ⟨0, none, 0, 0, none, 0, 0⟩) HR8.out _
  unfold put3 at HF HG
  simp only at HF HG
  go_wp2
  exact post_pbuild (y := ⟨(S : Nat), o, N, c, some ⟨G, 0, none⟩, S, S⟩) rfl rfl rfl HG.out HF.out
theorem build_ok : BuildOK := fun _ _ w rule h => pbuild_any w h rule
end Go.Proofs.Ytjmbimgofceanaa

/- NfaMeets, walked. -/
namespace Go.Proofs.Ytjmbimgofceanaa
open Go.RowKit
attribute [local go_sem ↓] Go.wp_at_zero Go.wp_at_succ

theorem gm_low {w w' : World} (h : GM w) (hb : Below w.heap.size w w') : GM w' := by
  obtain ⟨m, hm⟩ := h
  exact ⟨m, (World.cell?_of_block (w := w) (hb.block 0 (lt_of_cell hm))).trans hm⟩
theorem num_int2 (k : Int) (w : World) : Calls Try.prog 10 #[.int .i64 k] w fun e w' => e = .returned (.int .i64 k) ∧ w = w' := by
  go_enter Try.func10, Try.ntmps10
  go_wp2
  go_ret
  exact ⟨rfl, rfl⟩
theorem num_same (k : Int) (w : World) : Calls Try.prog 10 #[.int .i64 k] w fun e w' => e = .returned (.int .i64 k) ∧ w' = w := (num_int2 k w).mono fun _ _ h => ⟨h.1, h.2.symm⟩
theorem rule_of (r : Int) : ∃ k : Nat, wrap64 ((IntKind.u64.wrap r).tmod 32) = (k : Nat) ∧ k ≤ 31 := by
  have h0 : 0 ≤ IntKind.u64.wrap r := by simp [IntKind.wrap, IntKind.signed, IntKind.bits]; omega
  obtain ⟨x, hx⟩ : ∃ x, IntKind.u64.wrap r = x := ⟨_, rfl⟩
  rw [hx] at h0 ⊢
  have e : x.tmod 32 = x % 32 := Int.tmod_eq_emod_of_nonneg h0
  rw [e]
  refine ⟨(x % 32).toNat, ?_, by omega⟩
  unfold wrap64
  omega
theorem path_le {line : ByteArray} {es : List Eg} {a : Int} {i : Nat} {q : Int} {j : Nat} (h : Path line es a i q j) : i ≤ j ∧ (i ≤ line.size → j ≤ line.size) := by
  induction h with
  | refl => exact ⟨Nat.le_refl _, id⟩
  | snoc _ e _ _ k hm ih =>
    unfold Moves at hm
    omega
theorem tk_le {line : ByteArray} {t : Tn} (hp : (plc t).2 = true) {i j : Nat} (h : Tk line t i j) : i ≤ j ∧ (i ≤ line.size → j ≤ line.size) := by
  obtain ⟨es, _, l1⟩ := lay_fp (line := line) _ t (Nat.le_refl _) hp ⟨1, []⟩ 0 (by decide)
  exact path_le ((l1.path i j).2 h)
set_option maxRecDepth 4000 in
set_option maxHeartbeats 64000000 in
theorem meets_any (p line0 : ByteArray) (rule0 : Int) (w : World) (gm : GM w) : Calls Try.prog 3 #[.string p, .string line0, .int .i64 rule0] w fun e w' => e = .returned (.bool true) ∧ Below w.heap.size w w' := by
  have HGM : Hid (GM w) := gm
  have HKN : Hid (KnownOK) := known_any build_ok union_ok right_ok
  clear gm
  go_enter Try.func3, Try.ntmps3
  go_wp2_with fail
  refine (HKN.out w).mono ?_
  rintro e w1 ⟨rfl, k1⟩
  have HB1 : Hid (Below w.heap.size w w1) := k1
  clear k1 HKN
  go_wp2_with fail
  refine (short_any line0 w1).mono ?_
  rintro e w2 ⟨line, rfl, hl60, hw2⟩
  subst hw2
  go_upto_region 5 with fail
  obtain ⟨k, hk, hk31⟩ := rule_of rule0
  rw [hk]
  clear hk
  have HC : Hid (Calls Try.prog 9 #[.string p] w2 _) := parse_tree p w2 (gm_low HGM.out HB1.out)
  go_wp2_with fail
  refine HC.out.mono ?_
  rintro e w3 ⟨k3, x, pa, rfl, hin3⟩
  have HGD : Hid ((readT p).2 = 0 → (plc (readT p).1).2 = true ∧ ¬ 2048 < placesOf (readT p).1) := fun h => readT_good h
  obtain ⟨t, ht⟩ : ∃ t, (readT p).1 = t := ⟨_, rfl⟩
  obtain ⟨er, her⟩ : ∃ er, (readT p).2 = er := ⟨_, rfl⟩
  rw [ht] at hin3 HGD
  rw [her] at HGD ⊢
  clear ht her HC
  have kk : Below w3.heap.size w3 (w3.alloc (.cells #[.int .i64 x.k, .int .u64 (Oct.word x.s 0 : Nat), .int .u64 (Oct.word x.s 1 : Nat), .int .u64 (Oct.word x.s 2 : Nat), .int .u64 (Oct.word x.s 3 : Nat), .slice x.a x.n x.c, .int .i64 x.mn, .int .i64 x.mx] 30)) := (Below.refl _ _).alloc (Nat.le_refl _) _
  have HNX : Hid (NB (w3.alloc (.cells #[.int .i64 x.k, .int .u64 (Oct.word x.s 0 : Nat), .int .u64 (Oct.word x.s 1 : Nat), .int .u64 (Oct.word x.s 2 : Nat), .int .u64 (Oct.word x.s 3 : Nat), .slice x.a x.n x.c, .int .i64 x.mn, .int .i64 x.mx] 30)) w3.heap.size x) := nb_new w3 x
  have HIN4 : Hid (InAt (w3.alloc (.cells #[.int .i64 x.k, .int .u64 (Oct.word x.s 0 : Nat), .int .u64 (Oct.word x.s 1 : Nat), .int .u64 (Oct.word x.s 2 : Nat), .int .u64 (Oct.word x.s 3 : Nat), .slice x.a x.n x.c, .int .i64 x.mn, .int .i64 x.mx] 30)) t x) := hin3.later kk
  have HB4 : Hid (Below w.heap.size w (w3.alloc (.cells #[.int .i64 x.k, .int .u64 (Oct.word x.s 0 : Nat), .int .u64 (Oct.word x.s 1 : Nat), .int .u64 (Oct.word x.s 2 : Nat), .int .u64 (Oct.word x.s 3 : Nat), .slice x.a x.n x.c, .int .i64 x.mn, .int .i64 x.mx] 30))) := below_step HB1.out (below_step k3 kk)
  clear hin3 k3 HB1
  unfold Nd.val
  go_upto_region 6 with fail
  obtain ⟨w4, hw4⟩ : ∃ w4, w3.alloc (.cells #[.int .i64 x.k, .int .u64 (Oct.word x.s 0 : Nat), .int .u64 (Oct.word x.s 1 : Nat), .int .u64 (Oct.word x.s 2 : Nat), .int .u64 (Oct.word x.s 3 : Nat), .slice x.a x.n x.c, .int .i64 x.mn, .int .i64 x.mx] 30) = w4 := ⟨_, rfl⟩
  obtain ⟨A7, hA7⟩ : ∃ A7, w3.heap.size = A7 := ⟨_, rfl⟩
  rw [hw4] at HNX HIN4 HB4 ⊢
  rw [hA7] at HNX ⊢
  clear hw4 hA7 kk
  by_cases her : er = 0
  case neg =>
    have h1 : ((er : Int) != 0) = true := by simp; omega
    have h2 : ((er : Int) == 0) = false := by simp; omega
    go_wp2_with (first | (go_at_call 10; refine (num_int2 _ _).mono ?_; rintro e w' ⟨rfl, rfl⟩) | fail)
    go_ret
    exact ⟨rfl, HB4.out⟩
  subst her
  obtain ⟨hpl, hpb⟩ := HGD.out rfl
  have HP : Hid ((plc t).2 = true ∧ ¬ 2048 < placesOf t) := ⟨hpl, hpb⟩
  clear HGD hpl hpb
  simp only [Int.natCast_zero]
  have HBD : Hid (buildOf t (k : Nat) = (mach t k, 0)) := by
    show _ = _
    unfold buildOf
    rw [if_neg (by rw [HP.out.1]; decide), if_neg HP.out.2, if_neg (by omega), Int.toNat_natCast]
  obtain ⟨y0, y1, y2, y3, y4, y5, y6, y7⟩ := HNX.out.cells
  have HC : Hid (Calls Try.prog 11 #[x.val, .int .i64 (k : Nat)] w4 (BuildPost w4 t (k : Nat))) := build_ok t x w4 (k : Nat) HIN4.out
  unfold Nd.val at HC
  go_wp2_with (first | (go_at_call 10; refine (num_int2 _ _).mono ?_; rintro e w' ⟨rfl, rfl⟩) | fail)
  refine HC.out.mono ?_
  rintro e w5 ⟨k5, y, rfl, hm5⟩
  rw [HBD.out] at hm5 ⊢
  have HRT : Hid (rightOf (mach t k) = true) := mach_right HP.out.1 k
  have HLS : Hid ((mach t k).S = (placesOf t : Nat) ∧ (mach t k).S = ((lay t ⟨1, []⟩ 0).1.S : Nat)) := ⟨mach_states HP.out.1 HP.out.2 k, rfl⟩
  have HES : Hid ((mach t k).es.length ≤ 4096) := (lay_bounds HP.out.1 HP.out.2).2
  obtain ⟨S, hS⟩ : ∃ S, (lay t ⟨1, []⟩ 0).1.S = S := ⟨_, rfl⟩
  have HSS : Hid ((lay t ⟨1, []⟩ 0).1.S = S ∧ placesOf t = S ∧ (mach t k).S = (S : Nat) ∧ (mach t k).rs.length = S ∧ 1 ≤ S) := by
    have h1 := HLS.out
    obtain ⟨g1, g2, _⟩ := right_parts HRT.out
    exact ⟨hS, by omega, by omega, by omega, by omega⟩
  have hS2 : S ≤ 2048 := by have h1 := HSS.out.2.1; have h2 := HP.out.2; omega
  have hS1 : 1 ≤ S := HSS.out.2.2.2.2
  have e1 : y.S = (S : Nat) := hm5.s.trans HSS.out.2.2.1
  have e3 : y.rn = S := hm5.r.trans HSS.out.2.2.2.1
  have HM5 : Hid (MaAt (fun _ => True) w5 (mach t k) y) := hm5.keep (fun _ _ _ => trivial) (fun _ _ _ => rfl)
  obtain ⟨yS, ya, yn, yc, yra, yrn, yrc⟩ := y
  simp only at e1 e3
  subst e1
  have e3' : S = yrn := e3.symm
  subst e3'
  have kk : Below w5.heap.size w5 (w5.alloc (.cells #[.int .i64 (S : Nat), .slice ya yn yc, .slice yra S yrc] 38)) := (Below.refl _ _).alloc (Nat.le_refl _) _
  have HNY : Hid (NFB (w5.alloc (.cells #[.int .i64 (S : Nat), .slice ya yn yc, .slice yra S yrc] 38)) w5.heap.size ⟨(S : Nat), ya, yn, yc, yra, S, yrc⟩) := nfb_new w5 ⟨(S : Nat), ya, yn, yc, yra, S, yrc⟩
  have HM6 : Hid (MaAt (fun _ => True) (w5.alloc (.cells #[.int .i64 (S : Nat), .slice ya yn yc, .slice yra S yrc] 38)) (mach t k) ⟨(S : Nat), ya, yn, yc, yra, S, yrc⟩) := HM5.out.later kk
  have HN6 : Hid (NB (w5.alloc (.cells #[.int .i64 (S : Nat), .slice ya yn yc, .slice yra S yrc] 38)) A7 x) := HNX.out.later (below_step k5 kk)
  have HI6 : Hid (InAt (w5.alloc (.cells #[.int .i64 (S : Nat), .slice ya yn yc, .slice yra S yrc] 38)) t x) := HIN4.out.later (below_step k5 kk)
  have HB6 : Hid (Below w.heap.size w (w5.alloc (.cells #[.int .i64 (S : Nat), .slice ya yn yc, .slice yra S yrc] 38))) := below_step HB4.out (below_step k5 kk)
  clear e3 hm5 k5 HC HNX HIN4 HB4 HM5 HBD HLS hS y0 y1 y2 y3 y4 y5 y6 y7
  unfold Nf.val
  simp only [Int.natCast_zero]
  go_upto_region 9 with fail
  obtain ⟨w6, hw6⟩ : ∃ w6, w5.alloc (.cells #[.int .i64 (S : Nat), .slice ya yn yc, .slice yra S yrc] 38) = w6 := ⟨_, rfl⟩
  obtain ⟨A, hA⟩ : ∃ A, w5.heap.size = A := ⟨_, rfl⟩
  rw [hw6] at HNY HM6 HN6 HI6 HB6 ⊢
  rw [hA] at HNY ⊢
  clear hw6 hA kk
  have HLN : Hid (∀ u : Later w6, NB u.at_ A7 x) := fun u => HN6.out.later u.below
  have HLY : Hid (∀ u : Later w6, NFB u.at_ A ⟨(S : Nat), ya, yn, yc, yra, S, yrc⟩) := fun u => HNY.out.later u.below
  have c0 : ∀ u : Later w6, u.at_.cell? ⟨A7, 0, none⟩ = some (.int .i64 x.k) := fun u => (HLN.out u).cells.1
  have c1 : ∀ u : Later w6, u.at_.cell? ⟨A7, 1, none⟩ = some (.int .u64 (Oct.word x.s 0 : Nat)) := fun u => (HLN.out u).cells.2.1
  have c2 : ∀ u : Later w6, u.at_.cell? ⟨A7, 2, none⟩ = some (.int .u64 (Oct.word x.s 1 : Nat)) := fun u => (HLN.out u).cells.2.2.1
  have c3 : ∀ u : Later w6, u.at_.cell? ⟨A7, 3, none⟩ = some (.int .u64 (Oct.word x.s 2 : Nat)) := fun u => (HLN.out u).cells.2.2.2.1
  have c4 : ∀ u : Later w6, u.at_.cell? ⟨A7, 4, none⟩ = some (.int .u64 (Oct.word x.s 3 : Nat)) := fun u => (HLN.out u).cells.2.2.2.2.1
  have c5 : ∀ u : Later w6, u.at_.cell? ⟨A7, 5, none⟩ = some (.slice x.a x.n x.c) := fun u => (HLN.out u).cells.2.2.2.2.2.1
  have c6 : ∀ u : Later w6, u.at_.cell? ⟨A7, 6, none⟩ = some (.int .i64 x.mn) := fun u => (HLN.out u).cells.2.2.2.2.2.2.1
  have c7 : ∀ u : Later w6, u.at_.cell? ⟨A7, 7, none⟩ = some (.int .i64 x.mx) := fun u => (HLN.out u).cells.2.2.2.2.2.2.2
  have d0 : ∀ u : Later w6, u.at_.cell? ⟨A, 0, none⟩ = some (.int .i64 (S : Nat)) := fun u => (HLY.out u).cells.1
  have d1 : ∀ u : Later w6, u.at_.cell? ⟨A, 1, none⟩ = some (.slice ya yn yc) := fun u => (HLY.out u).cells.2.1
  have d2 : ∀ u : Later w6, u.at_.cell? ⟨A, 2, none⟩ = some (.slice yra S yrc) := fun u => (HLY.out u).cells.2.2
  have HNM : Hid (∀ u : Later w6, Calls Try.prog 10 #[.int .i64 0] u.at_ fun e w' => e = .returned (.int .i64 0) ∧ w' = u.at_) := fun u => num_same 0 u.at_
  have HCR : Hid (∀ u : Later w6, Calls Try.prog 12 #[Nf.val ⟨(S : Nat), ya, yn, yc, yra, S, yrc⟩] u.at_ fun e w' => e = .returned (.bool true) ∧ Below u.at_.heap.size u.at_ w') := fun u => by
    have h1 := right_ok (mach t k) ⟨(S : Nat), ya, yn, yc, yra, S, yrc⟩ u.at_ (HM6.out.later u.below) (by have := HES.out; omega) (by have := HSS.out.2.2.2.1; omega)
    rw [HRT.out] at h1
    exact h1
  have HCP : Hid (∀ u : Later w6, Calls Try.prog 13 #[x.val] u.at_ fun e w' => e = .returned (.int .i64 (S : Nat)) ∧ Below u.at_.heap.size u.at_ w') := fun u => by
    have h1 := Places_any u.at_ (HI6.out.later u.below)
    rw [HSS.out.2.1] at h1
    exact h1
  unfold Nf.val at HCR
  unfold Nd.val at HCP
  simp only at HCR
  have hne : Nonempty (Later w6) := ⟨⟨w6, Below.refl _ _⟩⟩
  have hSd : decide (((S : Nat) : Int) < 1) = false := by rw [decide_eq_false_iff_not]; omega
  have hSn : ¬ ((S : Nat) : Int) < 1 := by omega
  go_cut [63] (fun v wx => v = .bool false ∧ Hid (Below w6.heap.size w6 wx))
  case first =>
    refine wp_region_later (by kernel_rfl) (by kernel_rfl) ?_
    repeat (first
      | go_big_quiet_step (first | (go_at_call 10; exact calls_later_same (HNM.out _)) | (go_at_call 12; exact calls_later (HCR.out _)) | (go_at_call 13; exact calls_later (HCP.out _)))
      | quiet_step (first | (go_at_call 10; exact calls_later_same (HNM.out _)) | (go_at_call 12; exact calls_later (HCR.out _)) | (go_at_call 13; exact calls_later (HCP.out _))))
    refine wpQuiet_nil ?_
    intro _ hw'
    obtain ⟨u, hw''⟩ := hw'
    subst hw''
    go_wp2_with fail
    go_meet
    case rel => exact ⟨rfl, u.below⟩
  case rest =>
  obtain ⟨rfl, HK⟩ := hcut
  have HN7 : Hid (NB wc A7 x) := HN6.out.later HK.out
  have HY7 : Hid (NFB wc A ⟨(S : Nat), ya, yn, yc, yra, S, yrc⟩) := HNY.out.later HK.out
  have HM7 : Hid (MaAt (fun _ => True) wc (mach t k) ⟨(S : Nat), ya, yn, yc, yra, S, yrc⟩) := HM6.out.later HK.out
  have HI7 : Hid (InAt wc t x) := HI6.out.later HK.out
  have HB7 : Hid (Below w.heap.size w wc) := below_step HB6.out HK.out
  clear hne c0 c1 c2 c3 c4 c5 c6 c7 d0 d1 d2 HNM HCR HCP HLN HLY HK HN6 HNY HM6 HI6 HB6
  obtain ⟨y0, y1, y2, y3, y4, y5, y6, y7⟩ := HN7.out.cells
  obtain ⟨z0, z1, z2⟩ := HY7.out.cells
  simp only at z0 z1 z2
  have h25 : ¬ (2500 : Int) < (S : Nat) := by omega
  have HC : Hid (Calls Try.prog 14 #[x.val, .int .i64 1] wc (HeavyPost wc)) := heavy_any HI7.out HP.out.1 wc 1 (Below.refl _ _) (by omega) (by omega)
  unfold Nd.val at HC
  go_wp2_with fail
  refine HC.out.mono ?_
  rintro e w8 ⟨k8, q, rfl, q0, q1⟩
  have HN8 : Hid (NB w8 A7 x) := HN7.out.later k8
  have HY8 : Hid (NFB w8 A ⟨(S : Nat), ya, yn, yc, yra, S, yrc⟩) := HY7.out.later k8
  have HM8 : Hid (MaAt (fun _ => True) w8 (mach t k) ⟨(S : Nat), ya, yn, yc, yra, S, yrc⟩) := HM7.out.later k8
  have HI8 : Hid (InAt w8 t x) := HI7.out.later k8
  have HB8 : Hid (Below w.heap.size w w8) := below_step HB7.out k8
  clear k8 HC HN7 HY7 HM7 HI7 HB7 y0 y1 y2 y3 y4 y5 y6 y7 z0 z1 z2
  by_cases h4 : 4000 < q
  · go_wp2
    go_ret
    exact ⟨rfl, HB8.out⟩
  obtain ⟨y0, y1, y2, y3, y4, y5, y6, y7⟩ := HN8.out.cells
  have HC : Hid (Calls Try.prog 15 #[x.val, .string line] w8 (TakesPost w8 (line.size + 1) (Tk line t))) := takes_any hl60 w8 HI8.out HP.out.1
  unfold Nd.val at HC
  go_wp2_with fail
  refine HC.out.mono ?_
  rintro e w9 ⟨k9, b, rfl, hb9⟩
  have HTB : Hid (b = true ↔ ∃ i j, i < line.size + 1 ∧ Tk line t i j) := hb9
  have HY9 : Hid (NFB w9 A ⟨(S : Nat), ya, yn, yc, yra, S, yrc⟩) := HY8.out.later k9
  have HM9 : Hid (MaAt (fun _ => True) w9 (mach t k) ⟨(S : Nat), ya, yn, yc, yra, S, yrc⟩) := HM8.out.later k9
  have HB9 : Hid (Below w.heap.size w w9) := below_step HB8.out k9
  clear k9 hb9 HC HN8 HY8 HM8 HI8 HB8 y0 y1 y2 y3 y4 y5 y6 y7
  obtain ⟨z0, z1, z2⟩ := HY9.out.cells
  simp only at z0 z1 z2
  have HCM : Hid (Calls Try.prog 16 #[Nf.val ⟨(S : Nat), ya, yn, yc, yra, S, yrc⟩, .string line] w9 _) := met_any (S := S) (line := line) w9 HM9.out HSS.out.2.2.1 HSS.out.2.2.2.2 HSS.out.2.2.2.1 (by omega) (by have := HES.out; omega) (by have h1 := right_inR HRT.out; rw [HSS.out.2.2.2.1] at h1; exact h1) (mach_words t hk31) (by omega)
  unfold Nf.val at HCM
  simp only at HCM
  have HMM : Hid (∀ R, Walks (mach t k) S line 0 (List.replicate S false) 0 R → R = if b = true then 2 ^ k else 0) := fun R hw => by
    have hw' : Walks (mach t k) (lay t ⟨1, []⟩ 0).1.S line 0 (List.replicate (lay t ⟨1, []⟩ 0).1.S false) 0 R := by rw [HSS.out.1]; exact hw
    rcases mach_meets HP.out.1 k hw' with ⟨e, i, j, h1, h2⟩ | ⟨e, hn⟩
    · rw [if_pos (HTB.out.2 ⟨i, j, by have := (tk_le HP.out.1 h2).1; omega, h2⟩)]
      exact e
    · rw [if_neg (fun hb => by
        obtain ⟨i, j, h1, h2⟩ := HTB.out.1 hb
        exact hn i j ((tk_le HP.out.1 h2).2 (by omega)) h2)]
      exact e
  have h2r : (2 ^ k : Int) % 4294967296 = ((2 ^ k : Nat) : Int) := by
    have h1 : 2 ^ k ≤ 2 ^ 31 := Nat.pow_le_pow_right (by decide) hk31
    have h2 : ((2 ^ k : Nat) : Int) = (2 ^ k : Int) := by push_cast; rfl
    rw [← h2]
    obtain ⟨q, hq⟩ : ∃ q, 2 ^ k = q := ⟨_, rfl⟩
    rw [hq] at h1 ⊢
    simp at h1
    omega
  cases b with
  | true =>
    simp only [if_true] at HMM
    go_upto_region 16 with fail
    rw [h2r]
    obtain ⟨q2, hq2⟩ : ∃ q2, 2 ^ k = q2 := ⟨_, rfl⟩
    rw [hq2] at HMM ⊢
    clear hq2 h2r
    go_wp2_with fail
    refine HCM.out.mono ?_
    rintro e wA ⟨kA, R, rfl, hw⟩
    have hR := HMM.out R hw
    have HBA : Hid (Below w.heap.size w wA) := below_step HB9.out kA
    subst hR
    clear hw kA HCM
    go_wp2
    go_ret
    exact ⟨rfl, HBA.out⟩
  | false =>
    have HM0 : Hid (∀ R, Walks (mach t k) S line 0 (List.replicate S false) 0 R → R = 0) := fun R hw => by simpa using HMM.out R hw
    clear h2r HMM
    go_wp2_with fail
    refine HCM.out.mono ?_
    rintro e wA ⟨kA, R, rfl, hw⟩
    have hR := HM0.out R hw
    have HBA : Hid (Below w.heap.size w wA) := below_step HB9.out kA
    subst hR
    clear hw kA HCM
    simp only [Int.natCast_zero]
    go_wp2
    go_ret
    exact ⟨rfl, HBA.out⟩
end Go.Proofs.Ytjmbimgofceanaa


namespace Go.Proofs.Ytjmbimgofceanaa.nfaMeets
open Go.ChangeShapes Go.WideShapes Go.ChangeAt Go.RowKit
set_option maxRecDepth 8000 in
theorem contract (H : Type) (enc : TypeId × Value → H) (W : World) (base : Nat) (args : Array Value) (ds gs : List (DataW H)) (before : List MemPlace)
    (hval : ∀ (j : Nat) t v, Try.f3.params[j]? = some t → args[j]? = some v → Value.okWide Try.prog W .any base t v)
    (hW : DataW.Whole enc Try.prog Try.f3.params.toList Rows.nfaMeetsSpec.vars false W args.toList ds gs before)
    (hS : W.ShapedOpen Try.prog) :
    Calls Try.prog 3 args W fun e W' => ∃ v, e = .returned v ∧ Rows.nfaMeetsSpec.post enc Try.prog Try.f3 false true false false W args v W' := by
  have hW' := hW
  obtain ⟨p, q, hA0, hV, rfl, hfz, hnd⟩ := hW
  have hA : DataW.TrodAll enc Try.prog W 0 (fun _ => true) true Try.f3.params.toList args.toList ds p := hA0
  rw [Try.params3] at hA hval
  obtain ⟨v0, vs0, d0, ds0, p0, q0, hargs, rfl, rfl, h0, r0⟩ := trodAll_cons hA
  obtain ⟨v1, vs1, d1, ds1, p1, q1, rfl, rfl, rfl, h1, r1⟩ := trodAll_cons r0
  obtain ⟨v2, vs2, d2, ds2, p2, q2, rfl, rfl, rfl, h2, r2⟩ := trodAll_cons r1
  obtain ⟨rfl, rfl, rfl⟩ := trodAll_nil r2
  obtain rfl : args = #[v0, v1, v2] := by cases args; simp_all
  obtain ⟨rfl, rfl⟩ := trodVars_none hV
  have k0 := h0
  have k1 := h1
  have k2 := h2
  have lt2 : ∀ x ∈ p2, x.block < W.heap.size := by obtain ⟨m, hm⟩ := k2; exact DataW.trod_lt m _ _ _ hm
  obtain ⟨s, rfl, rfl, rfl⟩ := open_text (hval 0 9 v0 rfl rfl) h0
  obtain ⟨t, rfl, rfl, rfl⟩ := open_text (hval 1 9 v1 rfl rfl) h1
  obtain ⟨rule, rfl⟩ : ∃ rule : Int, v2 = .int .i64 rule := by
    have h := okWide_int Try.underlying3 (hval 2 3 v2 rfl rfl)
    obtain ⟨n, hn⟩ := h
    first | exact ⟨n, hn⟩ | exact ⟨n, hn.1⟩
  clear hA0
  refine (meets_any s t rule W (gm_of hS)).mono fun e W' ⟨he, bel⟩ => ?_
  subst he
  exact ⟨_, rfl, _, _, _, [], _, [], hW', trodAll_mk1 (shut_bool Try.underlying4 _), (trodAll_cons_mk (Below.trod laidOut (by kernel_rfl) (of_decide_eq_true (by kernel_rfl)) k0 bel (fun x hx => by cases hx)) (trodAll_cons_mk (Below.trod laidOut (by kernel_rfl) (of_decide_eq_true (by kernel_rfl)) k1 bel (fun x hx => by cases hx)) (trodAll_cons_mk (Below.trod laidOut (by kernel_rfl) (of_decide_eq_true (by kernel_rfl)) k2 bel lt2) trodAll_mk0))), rfl, bel.frame _, fun h => by cases h⟩
set_option maxRecDepth 100000 in
theorem lifted (os : Os) (started : os.Started) (H : Type) (enc : TypeId × Value → H) (F : Stop.Interp) :
    ReturnsInHanded {} Try.checked os 3 .any ((OpenSpec.ofChange Rows.nfaMeetsSpec).preRow enc Try.prog Try.f3 Rows.nfaMeetsRow.domain false Rows.nfaMeetsRow.laid) (((OpenSpec.ofChange Rows.nfaMeetsSpec).at F).post enc Try.prog Try.f3 false true false false) := by
  refine returnsInHanded_of_row (C := Try.checked) (s := OpenSpec.ofChange Rows.nfaMeetsSpec) own started (by kernel_rfl) Try.func3
    (witness_row_at (enc := enc) (C := Try.checked) false (World.holding Try.prog os ⟨#[], #[], []⟩)
      #[.string ⟨#[]⟩, .string ⟨#[]⟩, .int .i64 0] rfl (by kernel_rfl) (by kernel_rfl) (by kernel_rfl)
      (OpenSpec.preRow_of_cond 8 (x := ([.lit (.string []), .lit (.string []), .lit (.int .i64 0)], [], [])) (by kernel_rfl) (by kernel_rfl) (fun k hk => by cases hk) (by kernel_rfl) (laidMet_of_run' 8 (by kernel_rfl) (by kernel_rfl)))) ?_
  intro W base args ds gs before hval hW _ _ _ _ hS _
  exact contract H enc W base args ds gs before hval hW hS
theorem said : Rows.NfaMeetsSaid :=
  OpenClaim.holds_of_cond 3 Try.f3 rfl rfl rfl rfl rfl rfl rfl ⟨rfl, rfl, rfl, rfl, rfl⟩ rfl rfl rfl rfl rfl (by kernel_rfl) Try.func3 (by kernel_rfl)
    (of_decide_eq_true (by kernel_rfl)) (by unfold Func.isWrapper; first | (rw [if_pos (by decide +kernel)]; kernel_rfl) | (rw [if_neg (by decide +kernel)]; exact ⟨rfl, rfl⟩))
    (fun os started H enc _ F => by rw [OpenClaim.pre_eq_preRow]; exact lifted os started H enc F)
end Go.Proofs.Ytjmbimgofceanaa.nfaMeets
namespace Go.Proofs.Ytjmbimgofceanaa
/-- THE FIRST FORM OF NfaMeets. -/
theorem nfaMeets_said : Rows.NfaMeetsSaid := nfaMeets.said
end Go.Proofs.Ytjmbimgofceanaa
