/- EreTrees, walked. -/
import Derived.Test.YtlcnmfgmgiijpaaG34
import Derived.Test.YtlcnmfgmgiijpaaG32
import Derived.Test.YtlcnmfgmgiijpaaG33
import Derived.Test.YtlcnmfgmgiijpaaG26
namespace Go.Proofs.Ytlcnmfgmgiijpaa
open Go.RowKit
attribute [local go_sem ↓] Go.wp_at_zero Go.wp_at_succ

def zeroTn : Tn := .mk 0 Oct.none [] 0 0
theorem zero_in (w : World) : InAt w zeroTn zeroNd := .mk 0 Oct.none [] 0 0 none 0 0 [] rfl rfl (by decide) (Or.inl rfl) (fun i t v h => by simp at h)
set_option maxRecDepth 4000 in
set_option maxHeartbeats 8000000 in
theorem trees_any (p : ByteArray) (w : World) (gm : GM w) (hp : p.size ≤ 1000000000000000) : Calls Try.prog 5 #[.string p] w fun e w' => e = .returned (.bool true) ∧ Below w.heap.size w w' := by
  have HGM : Hid (GM w) := gm
  clear gm
  go_enter Try.func5, Try.ntmps5
  go_wp2_with fail
  refine (known_any w HGM.out).mono ?_
  rintro e u1 ⟨rfl, k1⟩
  have HB1 : Hid (Below w.heap.size w u1) := k1
  clear k1
  go_wp2_with fail
  refine (Parse_any p u1 (HGM.out.later HB1.out)).mono ?_
  intro e u2 hpp
  unfold ParsePost at hpp
  obtain ⟨k2, h2⟩ := hpp
  cases hc : parseOf p with
  | out => rw [hc] at h2; exact h2.elim
  | bad a c =>
    rw [hc] at h2
    have h2 : e = _ := h2
    subst h2
    obtain ⟨ha, hcode, hlen⟩ := parse_bad hc
    have HB2 : Hid (Below w.heap.size w u2) := below_step HB1.out k2
    clear hc k2
    have kk : Below u2.heap.size u2 (u2.alloc (.cells #[.int .i64 zeroNd.k, .int .u64 (Oct.word zeroNd.s 0 : Nat), .int .u64 (Oct.word zeroNd.s 1 : Nat), .int .u64 (Oct.word zeroNd.s 2 : Nat), .int .u64 (Oct.word zeroNd.s 3 : Nat), .slice zeroNd.a zeroNd.n zeroNd.c, .int .i64 zeroNd.mn, .int .i64 zeroNd.mx] 28)) := (Below.refl _ _).alloc (Nat.le_refl _) _
    have HNu3 : Hid (NB (u2.alloc (.cells #[.int .i64 zeroNd.k, .int .u64 (Oct.word zeroNd.s 0 : Nat), .int .u64 (Oct.word zeroNd.s 1 : Nat), .int .u64 (Oct.word zeroNd.s 2 : Nat), .int .u64 (Oct.word zeroNd.s 3 : Nat), .slice zeroNd.a zeroNd.n zeroNd.c, .int .i64 zeroNd.mn, .int .i64 zeroNd.mx] 28)) u2.heap.size zeroNd) := nb_new u2 zeroNd
    have HB3 : Hid (Below w.heap.size w (u2.alloc (.cells #[.int .i64 zeroNd.k, .int .u64 (Oct.word zeroNd.s 0 : Nat), .int .u64 (Oct.word zeroNd.s 1 : Nat), .int .u64 (Oct.word zeroNd.s 2 : Nat), .int .u64 (Oct.word zeroNd.s 3 : Nat), .slice zeroNd.a zeroNd.n zeroNd.c, .int .i64 zeroNd.mn, .int .i64 zeroNd.mx] 28))) := below_step HB2.out kk
    obtain ⟨u3, hu3⟩ : ∃ u3, u2.alloc (.cells #[.int .i64 zeroNd.k, .int .u64 (Oct.word zeroNd.s 0 : Nat), .int .u64 (Oct.word zeroNd.s 1 : Nat), .int .u64 (Oct.word zeroNd.s 2 : Nat), .int .u64 (Oct.word zeroNd.s 3 : Nat), .slice zeroNd.a zeroNd.n zeroNd.c, .int .i64 zeroNd.mn, .int .i64 zeroNd.mx] 28) = u3 := ⟨_, rfl⟩
    obtain ⟨A3, hA3⟩ : ∃ A3, u2.heap.size = A3 := ⟨_, rfl⟩
    rw [hu3] at HNu3 HB3
    rw [hA3] at HNu3
    have HUu3 : Hid (_ = u3) := hu3
    have HAA3 : Hid (_ = A3) := hA3
    clear kk hu3 hA3
    unfold Nd.val
    go_upto_region 4 with fail
    rw [HUu3.out, HAA3.out]
    clear HUu3 HAA3
    have hc0 : c ≠ 0 := by unfold Code at hcode; omega
    have q0 : ((c : Int) != 0) = true := by simp; omega
    go_wp2_with fail
    refine (num_any ((c : Nat)) _).mono ?_
    rintro e w' ⟨rfl, hw'⟩
    have hw' := hw'.symm
    subst hw'
    clear q0
    have hcw := HNu3.out.cells
    simp only [zeroNd, word0] at hcw
    obtain ⟨c0, c1, c2, c3, c4, c5, c6, c7⟩ := hcw
    have HSAME : Hid (∀ u, Below u3.heap.size u3 u → Calls Try.prog 12 #[zeroNd.val, zeroNd.val] u fun e w' => e = .returned (.bool true) ∧ Below u.heap.size u w') := fun u hu => (same_any (zero_in u3) _ _ (zero_in u3) u hu).mono (fun _ _ h => ⟨by rw [h.1, sameT_refl], h.2⟩)
    simp only [Nd.val, zeroNd, word0] at HSAME
    go_wp2_with fail
    refine (HSAME.out _ (Below.refl _ _)).mono ?_
    rintro e u4 ⟨rfl, k4⟩
    have HB4 : Hid (Below w.heap.size w u4) := below_step HB3.out k4
    clear k4 HSAME c0 c1 c2 c3 c4 c5 c6 c7
    have n1 : (0 : Int) ≤ (a : Int) := by omega
    have n2 : (a : Int) ≤ (p.size : Int) := by omega
    unfold Code at hcode
    by_cases h40 : 40 ≤ c
    · have m1 : (40 : Int) ≤ (c : Int) := by omega
      by_cases h48 : c ≤ 48
      · have m2 : (c : Int) ≤ 48 := by omega
        go_wp2_with fail
        refine (num_any ((c : Nat)) _).mono ?_
        rintro e w' ⟨rfl, hw'⟩
        have hw' := hw'.symm
        subst hw'
        go_wp2_with fail
        refine (num_any ((c : Nat)) _).mono ?_
        rintro e w' ⟨rfl, hw'⟩
        have hw' := hw'.symm
        subst hw'
        by_cases hl : p.size ≤ 1024
        · have l1 : (p.size : Int) ≤ 1024 := by omega
          clear hlen hcode
          go_wp2
          go_ret
          exact ⟨rfl, HB4.out⟩
        · have l1 : ¬ (p.size : Int) ≤ 1024 := by omega
          have q40 : ((c : Int) == 40) = true := by simp; omega
          have q1024 : ((a : Int) == 1024) = true := by simp; omega
          clear hlen hcode
          go_wp2_with fail
          refine (num_any ((c : Nat)) _).mono ?_
          rintro e w' ⟨rfl, hw'⟩
          have hw' := hw'.symm
          subst hw'
          go_wp2
          go_ret
          exact ⟨rfl, HB4.out⟩
      · omega
    · have m1 : ¬ (40 : Int) ≤ (c : Int) := by omega
      have q30 : ((c : Int) == 30) = true := by simp; omega
      go_wp2_with fail
      refine (num_any ((c : Nat)) _).mono ?_
      rintro e w' ⟨rfl, hw'⟩
      have hw' := hw'.symm
      subst hw'
      go_wp2_with fail
      refine (num_any ((c : Nat)) _).mono ?_
      rintro e w' ⟨rfl, hw'⟩
      have hw' := hw'.symm
      subst hw'
      have l1 : (p.size : Int) ≤ 1024 := by omega
      clear hlen hcode
      go_wp2
      go_ret
      exact ⟨rfl, HB4.out⟩
  | ok t j =>
    rw [hc] at h2
    obtain ⟨x, h2, hx⟩ := h2
    subst h2
    obtain ⟨hs, hnl, hpat, hpl, hg, hn0⟩ := parse_ok hc
    have HPO : Hid (parseOf p = .ok t j) := hc
    have HG : Hid (Good 1025 t) := hg
    have hpl1 : 1 ≤ placesOf (up t) := by unfold placesOf; rw [if_pos (good_plc hg)]; omega
    have HB2 : Hid (Below w.heap.size w u2) := below_step HB1.out k2
    have HX2 : Hid (NodeAt (fun _ => True) u2 t x) := hx.keep (fun _ _ _ => trivial) (fun _ _ _ => rfl)
    clear hc k2 hx hnl hpat hg hn0
    have kk : Below u2.heap.size u2 (u2.alloc (.cells #[.int .i64 x.k, .int .u64 (Oct.word x.s 0 : Nat), .int .u64 (Oct.word x.s 1 : Nat), .int .u64 (Oct.word x.s 2 : Nat), .int .u64 (Oct.word x.s 3 : Nat), .slice x.a x.n x.c, .int .i64 x.mn, .int .i64 x.mx] 28)) := (Below.refl _ _).alloc (Nat.le_refl _) _
    have HNu3 : Hid (NB (u2.alloc (.cells #[.int .i64 x.k, .int .u64 (Oct.word x.s 0 : Nat), .int .u64 (Oct.word x.s 1 : Nat), .int .u64 (Oct.word x.s 2 : Nat), .int .u64 (Oct.word x.s 3 : Nat), .slice x.a x.n x.c, .int .i64 x.mn, .int .i64 x.mx] 28)) u2.heap.size x) := nb_new u2 x
    have HB3 : Hid (Below w.heap.size w (u2.alloc (.cells #[.int .i64 x.k, .int .u64 (Oct.word x.s 0 : Nat), .int .u64 (Oct.word x.s 1 : Nat), .int .u64 (Oct.word x.s 2 : Nat), .int .u64 (Oct.word x.s 3 : Nat), .slice x.a x.n x.c, .int .i64 x.mn, .int .i64 x.mx] 28))) := below_step HB2.out kk
    have HX3 : Hid (NodeAt (fun _ => True) (u2.alloc (.cells #[.int .i64 x.k, .int .u64 (Oct.word x.s 0 : Nat), .int .u64 (Oct.word x.s 1 : Nat), .int .u64 (Oct.word x.s 2 : Nat), .int .u64 (Oct.word x.s 3 : Nat), .slice x.a x.n x.c, .int .i64 x.mn, .int .i64 x.mx] 28)) t x) := HX2.out.later kk
    obtain ⟨u3, hu3⟩ : ∃ u3, u2.alloc (.cells #[.int .i64 x.k, .int .u64 (Oct.word x.s 0 : Nat), .int .u64 (Oct.word x.s 1 : Nat), .int .u64 (Oct.word x.s 2 : Nat), .int .u64 (Oct.word x.s 3 : Nat), .slice x.a x.n x.c, .int .i64 x.mn, .int .i64 x.mx] 28) = u3 := ⟨_, rfl⟩
    obtain ⟨A3, hA3⟩ : ∃ A3, u2.heap.size = A3 := ⟨_, rfl⟩
    rw [hu3] at HNu3 HB3 HX3
    rw [hA3] at HNu3
    have HUu3 : Hid (_ = u3) := hu3
    have HAA3 : Hid (_ = A3) := hA3
    clear kk hu3 hA3
    unfold Nd.val
    go_upto_region 4 with fail
    rw [HUu3.out, HAA3.out]
    clear HUu3 HAA3
    go_wp2_with fail
    refine (num_any (0) _).mono ?_
    rintro e w' ⟨rfl, hw'⟩
    have hw' := hw'.symm
    subst hw'
    obtain ⟨c0, c1, c2, c3, c4, c5, c6, c7⟩ := HNu3.out.cells
    have HPLA : Hid (∀ u, Below u3.heap.size u3 u → Calls Try.prog 14 #[x.val] u fun e w' => e = .returned (.int .i64 (placesOf (up t) : Nat)) ∧ Below u.heap.size u w') := fun u hu => Places_any u ((HX3.out.later hu).inAt (N := 1025) (by decide) (by decide) HG.out)
    have HIS : Hid (∀ u, Below u3.heap.size u3 u → Calls Try.prog 15 #[x.val] u fun e w' => e = .returned (.bool true) ∧ Below u.heap.size u w') := fun u hu => is_any HX3.out (N := 1025) (by decide) HG.out u hu
    obtain ⟨P, hP⟩ : ∃ P, P = placesOf (up t) := ⟨_, rfl⟩
    rw [← hP] at HPLA hpl hpl1
    clear hP
    unfold Nd.val at HPLA HIS
    go_wp2_with fail
    refine (HPLA.out _ (Below.refl _ _)).mono ?_
    rintro e u4 ⟨rfl, k4⟩
    have HN4 : Hid (NB u4 A3 x) := HNu3.out.later k4
    have HX4 : Hid (NodeAt (fun _ => True) u4 t x) := HX3.out.later k4
    have HB4 : Hid (Below w.heap.size w u4) := below_step HB3.out k4
    have HK4 : Hid (Below u3.heap.size u3 u4) := k4
    clear k4 HPLA c0 c1 c2 c3 c4 c5 c6 c7
    obtain ⟨c0, c1, c2, c3, c4, c5, c6, c7⟩ := HN4.out.cells
    go_wp2_with fail
    refine (HIS.out _ HK4.out).mono ?_
    rintro e u5 ⟨rfl, k5⟩
    have HN5 : Hid (NB u5 A3 x) := HN4.out.later k5
    have HX5 : Hid (NodeAt (fun _ => True) u5 t x) := HX4.out.later k5
    have HB5 : Hid (Below w.heap.size w u5) := below_step HB4.out k5
    clear k5 HIS c0 c1 c2 c3 c4 c5 c6 c7 HNu3 HX3 HB3 HN4 HX4 HB4 HK4
    have m1 : ¬ (P : Int) < 1 := by omega
    have m2 : ¬ (2048 : Int) < (P : Int) := by omega
    have m3 : ¬ (1024 : Int) < (p.size : Int) := by omega
    go_wp2_with fail
    refine (bars_any p _ (by omega)).mono ?_
    rintro e w' ⟨rfl, hw'⟩
    have hw' := hw'.symm
    subst hw'
    obtain ⟨S, hS⟩ : ∃ S, (⟨#[40]⟩ ++ p ++ ⟨#[41]⟩ : ByteArray) = S := ⟨_, rfl⟩
    have HGM5 : Hid (GM u5) := HGM.out.later HB5.out
    by_cases hl : p.size ≤ 1022
    · obtain ⟨q, b, hk, hok, hbad⟩ := brackets HPO.out hl
      have HBM : Hid ((barsOf p).m = (q : Int)) := (by unfold barsOf; rw [hk] : (barsOf p).m = (q : Int))
      rw [HBM.out]
      have l1 : ¬ (1022 : Int) < (p.size : Int) := by omega
      rw [hS] at hok hbad
      clear hk HBM HPO
      by_cases hq : 64 ≤ q
      · have m4 : (64 : Int) ≤ (q : Int) := by omega
        obtain ⟨a2, hb2⟩ := hbad hq
        have HPS : Hid (parseOf S = .bad a2 47) := hb2
        clear hok hbad hb2
        go_wp2_with fail
        refine (Parse_any S _ HGM5.out).mono ?_
        intro e u6 hpp
        unfold ParsePost at hpp
        rw [HPS.out] at hpp
        obtain ⟨k6, h2⟩ := hpp
        have h2 : e = _ := h2
        subst h2
        have HB6 : Hid (Below w.heap.size w u6) := below_step HB5.out k6
        clear k6
        have kk : Below u6.heap.size u6 (u6.alloc (.cells #[.int .i64 zeroNd.k, .int .u64 (Oct.word zeroNd.s 0 : Nat), .int .u64 (Oct.word zeroNd.s 1 : Nat), .int .u64 (Oct.word zeroNd.s 2 : Nat), .int .u64 (Oct.word zeroNd.s 3 : Nat), .slice zeroNd.a zeroNd.n zeroNd.c, .int .i64 zeroNd.mn, .int .i64 zeroNd.mx] 28)) := (Below.refl _ _).alloc (Nat.le_refl _) _
        have HNu7 : Hid (NB (u6.alloc (.cells #[.int .i64 zeroNd.k, .int .u64 (Oct.word zeroNd.s 0 : Nat), .int .u64 (Oct.word zeroNd.s 1 : Nat), .int .u64 (Oct.word zeroNd.s 2 : Nat), .int .u64 (Oct.word zeroNd.s 3 : Nat), .slice zeroNd.a zeroNd.n zeroNd.c, .int .i64 zeroNd.mn, .int .i64 zeroNd.mx] 28)) u6.heap.size zeroNd) := nb_new u6 zeroNd
        have HB7 : Hid (Below w.heap.size w (u6.alloc (.cells #[.int .i64 zeroNd.k, .int .u64 (Oct.word zeroNd.s 0 : Nat), .int .u64 (Oct.word zeroNd.s 1 : Nat), .int .u64 (Oct.word zeroNd.s 2 : Nat), .int .u64 (Oct.word zeroNd.s 3 : Nat), .slice zeroNd.a zeroNd.n zeroNd.c, .int .i64 zeroNd.mn, .int .i64 zeroNd.mx] 28))) := below_step HB6.out kk
        obtain ⟨u7, hu7⟩ : ∃ u7, u6.alloc (.cells #[.int .i64 zeroNd.k, .int .u64 (Oct.word zeroNd.s 0 : Nat), .int .u64 (Oct.word zeroNd.s 1 : Nat), .int .u64 (Oct.word zeroNd.s 2 : Nat), .int .u64 (Oct.word zeroNd.s 3 : Nat), .slice zeroNd.a zeroNd.n zeroNd.c, .int .i64 zeroNd.mn, .int .i64 zeroNd.mx] 28) = u7 := ⟨_, rfl⟩
        obtain ⟨A7, hA7⟩ : ∃ A7, u6.heap.size = A7 := ⟨_, rfl⟩
        rw [hu7] at HNu7 HB7
        rw [hA7] at HNu7
        have HUu7 : Hid (_ = u7) := hu7
        have HAA7 : Hid (_ = A7) := hA7
        clear kk hu7 hA7
        unfold Nd.val
        go_upto_region 11 with fail
        rw [HUu7.out, HAA7.out]
        clear HUu7 HAA7
        go_wp2_with fail
        refine (num_any (47) _).mono ?_
        rintro e w' ⟨rfl, hw'⟩
        have hw' := hw'.symm
        subst hw'
        go_wp2
        go_ret
        exact ⟨rfl, HB7.out⟩
      · have m4 : ¬ (64 : Int) ≤ (q : Int) := by omega
        have HPS : Hid (parseOf S = .ok t (p.size + 2)) := hok (by omega)
        clear hok hbad
        go_wp2_with fail
        refine (Parse_any S _ HGM5.out).mono ?_
        intro e u6 hpp
        unfold ParsePost at hpp
        rw [HPS.out] at hpp
        obtain ⟨k6, h2⟩ := hpp
        obtain ⟨y, h2, hy⟩ := h2
        subst h2
        have HY6 : Hid (NodeAt (fun _ => True) u6 t y) := hy.keep (fun _ _ _ => trivial) (fun _ _ _ => rfl)
        have HX6 : Hid (NodeAt (fun _ => True) u6 t x) := HX5.out.later k6
        have HN6 : Hid (NB u6 A3 x) := HN5.out.later k6
        clear hy
        have HB6 : Hid (Below w.heap.size w u6) := below_step HB5.out k6
        clear k6
        have kk : Below u6.heap.size u6 (u6.alloc (.cells #[.int .i64 y.k, .int .u64 (Oct.word y.s 0 : Nat), .int .u64 (Oct.word y.s 1 : Nat), .int .u64 (Oct.word y.s 2 : Nat), .int .u64 (Oct.word y.s 3 : Nat), .slice y.a y.n y.c, .int .i64 y.mn, .int .i64 y.mx] 28)) := (Below.refl _ _).alloc (Nat.le_refl _) _
        have HNu7 : Hid (NB (u6.alloc (.cells #[.int .i64 y.k, .int .u64 (Oct.word y.s 0 : Nat), .int .u64 (Oct.word y.s 1 : Nat), .int .u64 (Oct.word y.s 2 : Nat), .int .u64 (Oct.word y.s 3 : Nat), .slice y.a y.n y.c, .int .i64 y.mn, .int .i64 y.mx] 28)) u6.heap.size y) := nb_new u6 y
        have HB7 : Hid (Below w.heap.size w (u6.alloc (.cells #[.int .i64 y.k, .int .u64 (Oct.word y.s 0 : Nat), .int .u64 (Oct.word y.s 1 : Nat), .int .u64 (Oct.word y.s 2 : Nat), .int .u64 (Oct.word y.s 3 : Nat), .slice y.a y.n y.c, .int .i64 y.mn, .int .i64 y.mx] 28))) := below_step HB6.out kk
        have HY7 : Hid (NodeAt (fun _ => True) (u6.alloc (.cells #[.int .i64 y.k, .int .u64 (Oct.word y.s 0 : Nat), .int .u64 (Oct.word y.s 1 : Nat), .int .u64 (Oct.word y.s 2 : Nat), .int .u64 (Oct.word y.s 3 : Nat), .slice y.a y.n y.c, .int .i64 y.mn, .int .i64 y.mx] 28)) t y) := HY6.out.later kk
        have HX7 : Hid (NodeAt (fun _ => True) (u6.alloc (.cells #[.int .i64 y.k, .int .u64 (Oct.word y.s 0 : Nat), .int .u64 (Oct.word y.s 1 : Nat), .int .u64 (Oct.word y.s 2 : Nat), .int .u64 (Oct.word y.s 3 : Nat), .slice y.a y.n y.c, .int .i64 y.mn, .int .i64 y.mx] 28)) t x) := HX6.out.later kk
        have HN7 : Hid (NB (u6.alloc (.cells #[.int .i64 y.k, .int .u64 (Oct.word y.s 0 : Nat), .int .u64 (Oct.word y.s 1 : Nat), .int .u64 (Oct.word y.s 2 : Nat), .int .u64 (Oct.word y.s 3 : Nat), .slice y.a y.n y.c, .int .i64 y.mn, .int .i64 y.mx] 28)) A3 x) := HN6.out.later kk
        obtain ⟨u7, hu7⟩ : ∃ u7, u6.alloc (.cells #[.int .i64 y.k, .int .u64 (Oct.word y.s 0 : Nat), .int .u64 (Oct.word y.s 1 : Nat), .int .u64 (Oct.word y.s 2 : Nat), .int .u64 (Oct.word y.s 3 : Nat), .slice y.a y.n y.c, .int .i64 y.mn, .int .i64 y.mx] 28) = u7 := ⟨_, rfl⟩
        obtain ⟨A7, hA7⟩ : ∃ A7, u6.heap.size = A7 := ⟨_, rfl⟩
        rw [hu7] at HNu7 HB7 HY7 HX7 HN7
        rw [hA7] at HNu7
        have HUu7 : Hid (_ = u7) := hu7
        have HAA7 : Hid (_ = A7) := hA7
        clear kk hu7 hA7
        unfold Nd.val
        go_upto_region 11 with fail
        rw [HUu7.out, HAA7.out]
        clear HUu7 HAA7
        go_wp2_with fail
        refine (num_any (0) _).mono ?_
        rintro e w' ⟨rfl, hw'⟩
        have hw' := hw'.symm
        subst hw'
        obtain ⟨c0, c1, c2, c3, c4, c5, c6, c7⟩ := HN7.out.cells
        obtain ⟨b0, b1, b2, b3, b4, b5, b6, b7⟩ := HNu7.out.cells
        have HSAME : Hid (∀ u, Below u7.heap.size u7 u → Calls Try.prog 12 #[y.val, x.val] u fun e w' => e = .returned (.bool true) ∧ Below u.heap.size u w') := fun u hu => (same_any (HY7.out.inAt (N := 1025) (by decide) (by decide) HG.out) _ _ (HX7.out.inAt (N := 1025) (by decide) (by decide) HG.out) u hu).mono (fun _ _ h => ⟨by rw [h.1, sameT_refl], h.2⟩)
        unfold Nd.val at HSAME
        go_wp2_with fail
        refine (HSAME.out _ (Below.refl _ _)).mono ?_
        rintro e u8 ⟨rfl, k8⟩
        have HB8 : Hid (Below w.heap.size w u8) := below_step HB7.out k8
        clear k8 HSAME c0 c1 c2 c3 c4 c5 c6 c7 b0 b1 b2 b3 b4 b5 b6 b7
        go_wp2
        go_ret
        exact ⟨rfl, HB8.out⟩
    · have l1 : (1022 : Int) < (p.size : Int) := by omega
      have hz : 1024 < S.size := by rw [← hS, ByteArray.size_append, ByteArray.size_append, size_one, size_one]; omega
      have HPS : Hid (parseOf S = .bad 1024 40) := (by unfold parseOf; rw [if_pos hz] : parseOf S = .bad 1024 40)
      clear hz HPO
      go_wp2_with fail
      refine (Parse_any S _ HGM5.out).mono ?_
      intro e u6 hpp
      unfold ParsePost at hpp
      rw [HPS.out] at hpp
      obtain ⟨k6, h2⟩ := hpp
      have h2 : e = _ := h2
      subst h2
      have HB6 : Hid (Below w.heap.size w u6) := below_step HB5.out k6
      clear k6
      have kk : Below u6.heap.size u6 (u6.alloc (.cells #[.int .i64 zeroNd.k, .int .u64 (Oct.word zeroNd.s 0 : Nat), .int .u64 (Oct.word zeroNd.s 1 : Nat), .int .u64 (Oct.word zeroNd.s 2 : Nat), .int .u64 (Oct.word zeroNd.s 3 : Nat), .slice zeroNd.a zeroNd.n zeroNd.c, .int .i64 zeroNd.mn, .int .i64 zeroNd.mx] 28)) := (Below.refl _ _).alloc (Nat.le_refl _) _
      have HNu7 : Hid (NB (u6.alloc (.cells #[.int .i64 zeroNd.k, .int .u64 (Oct.word zeroNd.s 0 : Nat), .int .u64 (Oct.word zeroNd.s 1 : Nat), .int .u64 (Oct.word zeroNd.s 2 : Nat), .int .u64 (Oct.word zeroNd.s 3 : Nat), .slice zeroNd.a zeroNd.n zeroNd.c, .int .i64 zeroNd.mn, .int .i64 zeroNd.mx] 28)) u6.heap.size zeroNd) := nb_new u6 zeroNd
      have HB7 : Hid (Below w.heap.size w (u6.alloc (.cells #[.int .i64 zeroNd.k, .int .u64 (Oct.word zeroNd.s 0 : Nat), .int .u64 (Oct.word zeroNd.s 1 : Nat), .int .u64 (Oct.word zeroNd.s 2 : Nat), .int .u64 (Oct.word zeroNd.s 3 : Nat), .slice zeroNd.a zeroNd.n zeroNd.c, .int .i64 zeroNd.mn, .int .i64 zeroNd.mx] 28))) := below_step HB6.out kk
      obtain ⟨u7, hu7⟩ : ∃ u7, u6.alloc (.cells #[.int .i64 zeroNd.k, .int .u64 (Oct.word zeroNd.s 0 : Nat), .int .u64 (Oct.word zeroNd.s 1 : Nat), .int .u64 (Oct.word zeroNd.s 2 : Nat), .int .u64 (Oct.word zeroNd.s 3 : Nat), .slice zeroNd.a zeroNd.n zeroNd.c, .int .i64 zeroNd.mn, .int .i64 zeroNd.mx] 28) = u7 := ⟨_, rfl⟩
      obtain ⟨A7, hA7⟩ : ∃ A7, u6.heap.size = A7 := ⟨_, rfl⟩
      rw [hu7] at HNu7 HB7
      rw [hA7] at HNu7
      have HUu7 : Hid (_ = u7) := hu7
      have HAA7 : Hid (_ = A7) := hA7
      clear kk hu7 hA7
      unfold Nd.val
      go_upto_region 11 with fail
      rw [HUu7.out, HAA7.out]
      clear HUu7 HAA7
      go_wp2_with fail
      refine (num_any (40) _).mono ?_
      rintro e w' ⟨rfl, hw'⟩
      have hw' := hw'.symm
      subst hw'
      go_wp2
      go_ret
      exact ⟨rfl, HB7.out⟩
end Go.Proofs.Ytlcnmfgmgiijpaa
