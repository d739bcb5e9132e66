/- NfaOwn, walked. -/
import Derived.Test.YtjmbimgofceanaaG36
import Derived.Deep.CutBlock
namespace Go.Proofs.Ytjmbimgofceanaa
open Go.RowKit
attribute [local go_sem ↓] Go.wp_at_zero Go.wp_at_succ

set_option maxRecDepth 8000 in
set_option maxHeartbeats 64000000 in
theorem own_any (p q : ByteArray) (w : World) (gm : GM w) : Calls Try.prog 6 #[.string p, .string q] w fun e w' => e = .returned (.bool true) ∧ Below w.heap.size w w' := by
  have HGM : Hid (GM w) := gm
  have HKN : Hid (KnownOK) := known_any build_ok union_ok right_ok
  clear gm
  go_enter Try.func6, Try.ntmps6
  go_wp2_with fail
  refine (HKN.out w).mono ?_
  rintro e w1 ⟨rfl, k1⟩
  have HB : Hid (Below w.heap.size w w1) := k1
  clear k1 HKN
  have HC : Hid (Calls Try.prog 9 #[.string p] w1 _) := parse_tree p w1 (gm_low HGM.out HB.out)
  go_wp2_with fail
  refine HC.out.mono ?_
  rintro e w2 ⟨k2, x, pa, rfl, hin⟩
  have HIN : Hid (InAt w2 (readT p).1 x) := hin
  obtain ⟨t, ht⟩ : ∃ t, (readT p).1 = t := ⟨_, rfl⟩
  obtain ⟨er, her⟩ : ∃ er, (readT p).2 = er := ⟨_, rfl⟩
  rw [ht] at HIN
  rw [her]
  clear ht her HC hin
  have HB' : Hid (Below w.heap.size w w2) := below_step HB.out k2
  clear HB
  have HB := HB'
  clear HB'
  clear k2
  have kk : Below w2.heap.size w2 (w2.alloc (.cells #[.int .i64 x.k, .int .u64 (Oct.word x.s 0 : Nat), .int .u64 (Oct.word x.s 1 : Nat), .int .u64 (Oct.word x.s 2 : Nat), .int .u64 (Oct.word x.s 3 : Nat), .slice x.a x.n x.c, .int .i64 x.mn, .int .i64 x.mx] 30)) := (Below.refl _ _).alloc (Nat.le_refl _) _
  have HSz : Hid (w2.heap.size < (w2.alloc (.cells #[.int .i64 x.k, .int .u64 (Oct.word x.s 0 : Nat), .int .u64 (Oct.word x.s 1 : Nat), .int .u64 (Oct.word x.s 2 : Nat), .int .u64 (Oct.word x.s 3 : Nat), .slice x.a x.n x.c, .int .i64 x.mn, .int .i64 x.mx] 30)).heap.size) := by show _ < _; simp
  have HB' : Hid (Below w.heap.size w (w2.alloc (.cells #[.int .i64 x.k, .int .u64 (Oct.word x.s 0 : Nat), .int .u64 (Oct.word x.s 1 : Nat), .int .u64 (Oct.word x.s 2 : Nat), .int .u64 (Oct.word x.s 3 : Nat), .slice x.a x.n x.c, .int .i64 x.mn, .int .i64 x.mx] 30))) := below_step HB.out kk
  have HIN' : Hid (InAt (w2.alloc (.cells #[.int .i64 x.k, .int .u64 (Oct.word x.s 0 : Nat), .int .u64 (Oct.word x.s 1 : Nat), .int .u64 (Oct.word x.s 2 : Nat), .int .u64 (Oct.word x.s 3 : Nat), .slice x.a x.n x.c, .int .i64 x.mn, .int .i64 x.mx] 30)) t x) := HIN.out.later kk
  clear HB HIN
  have HB := HB'
  have HIN := HIN'
  clear HB' HIN'
  have HNT : Hid (NB (w2.alloc (.cells #[.int .i64 x.k, .int .u64 (Oct.word x.s 0 : Nat), .int .u64 (Oct.word x.s 1 : Nat), .int .u64 (Oct.word x.s 2 : Nat), .int .u64 (Oct.word x.s 3 : Nat), .slice x.a x.n x.c, .int .i64 x.mn, .int .i64 x.mx] 30)) w2.heap.size x) := nb_new w2 x
  unfold Nd.val
  go_upto_region 4 with fail
  obtain ⟨w3, hq⟩ : ∃ q, w2.alloc (.cells #[.int .i64 x.k, .int .u64 (Oct.word x.s 0 : Nat), .int .u64 (Oct.word x.s 1 : Nat), .int .u64 (Oct.word x.s 2 : Nat), .int .u64 (Oct.word x.s 3 : Nat), .slice x.a x.n x.c, .int .i64 x.mn, .int .i64 x.mx] 30) = q := ⟨_, rfl⟩
  obtain ⟨TT, hb⟩ : ∃ q, w2.heap.size = q := ⟨_, rfl⟩
  rw [hq] at HSz HB HIN HNT ⊢
  rw [hb] at HNT ⊢
  have HZw3 : Hid (w2.heap.size < w3.heap.size) := HSz
  clear hq hb kk HSz
  have HC : Hid (Calls Try.prog 9 #[.string q] w3 _) := parse_tree q w3 (gm_low HGM.out HB.out)
  go_wp2_with fail
  refine HC.out.mono ?_
  rintro e w4 ⟨k4, x2, pa2, rfl, hin⟩
  have HIU' : Hid (InAt w4 (readT q).1 x2) := hin
  obtain ⟨t2, ht⟩ : ∃ t, (readT q).1 = t := ⟨_, rfl⟩
  obtain ⟨er2, her⟩ : ∃ er, (readT q).2 = er := ⟨_, rfl⟩
  rw [ht] at HIU'
  rw [her]
  clear ht her HC hin
  have HB' : Hid (Below w.heap.size w w4) := below_step HB.out k4
  have HIN' : Hid (InAt w4 t x) := HIN.out.later k4
  have HNT' : Hid (NB w4 TT x) := HNT.out.later k4
  clear HB HIN HNT
  have HB := HB'
  have HIN := HIN'
  have HNT := HNT'
  clear HB' HIN' HNT'
  clear k4
  have HIU := HIU'
  clear HIU'
  have kk : Below w4.heap.size w4 (w4.alloc (.cells #[.int .i64 x2.k, .int .u64 (Oct.word x2.s 0 : Nat), .int .u64 (Oct.word x2.s 1 : Nat), .int .u64 (Oct.word x2.s 2 : Nat), .int .u64 (Oct.word x2.s 3 : Nat), .slice x2.a x2.n x2.c, .int .i64 x2.mn, .int .i64 x2.mx] 30)) := (Below.refl _ _).alloc (Nat.le_refl _) _
  have HSz : Hid (w4.heap.size < (w4.alloc (.cells #[.int .i64 x2.k, .int .u64 (Oct.word x2.s 0 : Nat), .int .u64 (Oct.word x2.s 1 : Nat), .int .u64 (Oct.word x2.s 2 : Nat), .int .u64 (Oct.word x2.s 3 : Nat), .slice x2.a x2.n x2.c, .int .i64 x2.mn, .int .i64 x2.mx] 30)).heap.size) := by show _ < _; simp
  have HB' : Hid (Below w.heap.size w (w4.alloc (.cells #[.int .i64 x2.k, .int .u64 (Oct.word x2.s 0 : Nat), .int .u64 (Oct.word x2.s 1 : Nat), .int .u64 (Oct.word x2.s 2 : Nat), .int .u64 (Oct.word x2.s 3 : Nat), .slice x2.a x2.n x2.c, .int .i64 x2.mn, .int .i64 x2.mx] 30))) := below_step HB.out kk
  have HIN' : Hid (InAt (w4.alloc (.cells #[.int .i64 x2.k, .int .u64 (Oct.word x2.s 0 : Nat), .int .u64 (Oct.word x2.s 1 : Nat), .int .u64 (Oct.word x2.s 2 : Nat), .int .u64 (Oct.word x2.s 3 : Nat), .slice x2.a x2.n x2.c, .int .i64 x2.mn, .int .i64 x2.mx] 30)) t x) := HIN.out.later kk
  have HNT' : Hid (NB (w4.alloc (.cells #[.int .i64 x2.k, .int .u64 (Oct.word x2.s 0 : Nat), .int .u64 (Oct.word x2.s 1 : Nat), .int .u64 (Oct.word x2.s 2 : Nat), .int .u64 (Oct.word x2.s 3 : Nat), .slice x2.a x2.n x2.c, .int .i64 x2.mn, .int .i64 x2.mx] 30)) TT x) := HNT.out.later kk
  have HIU' : Hid (InAt (w4.alloc (.cells #[.int .i64 x2.k, .int .u64 (Oct.word x2.s 0 : Nat), .int .u64 (Oct.word x2.s 1 : Nat), .int .u64 (Oct.word x2.s 2 : Nat), .int .u64 (Oct.word x2.s 3 : Nat), .slice x2.a x2.n x2.c, .int .i64 x2.mn, .int .i64 x2.mx] 30)) t2 x2) := HIU.out.later kk
  clear HB HIN HNT HIU
  have HB := HB'
  have HIN := HIN'
  have HNT := HNT'
  have HIU := HIU'
  clear HB' HIN' HNT' HIU'
  have HNU : Hid (NB (w4.alloc (.cells #[.int .i64 x2.k, .int .u64 (Oct.word x2.s 0 : Nat), .int .u64 (Oct.word x2.s 1 : Nat), .int .u64 (Oct.word x2.s 2 : Nat), .int .u64 (Oct.word x2.s 3 : Nat), .slice x2.a x2.n x2.c, .int .i64 x2.mn, .int .i64 x2.mx] 30)) w4.heap.size x2) := nb_new w4 x2
  unfold Nd.val
  go_upto_region 5 with fail
  obtain ⟨w5, hq⟩ : ∃ q, w4.alloc (.cells #[.int .i64 x2.k, .int .u64 (Oct.word x2.s 0 : Nat), .int .u64 (Oct.word x2.s 1 : Nat), .int .u64 (Oct.word x2.s 2 : Nat), .int .u64 (Oct.word x2.s 3 : Nat), .slice x2.a x2.n x2.c, .int .i64 x2.mn, .int .i64 x2.mx] 30) = q := ⟨_, rfl⟩
  obtain ⟨UU, hb⟩ : ∃ q, w4.heap.size = q := ⟨_, rfl⟩
  rw [hq] at HSz HB HIN HNT HIU HNU ⊢
  rw [hb] at HNU ⊢
  have HZw5 : Hid (w4.heap.size < w5.heap.size) := HSz
  clear hq hb kk HSz
  by_cases her : er = 0
  case neg =>
    have h1 : ((er : Int) != 0) = true := by simp; omega
    have h2 : ((er : Int) == 0) = false := by simp; omega
    go_wp2_with (first | (go_at_call 10; refine (num_int2 _ _).mono ?_; rintro e w' ⟨rfl, rfl⟩) | fail)
    go_ret
    exact ⟨rfl, HB.out⟩
  subst her
  by_cases her : er2 = 0
  case neg =>
    have h1 : ((er2 : Int) != 0) = true := by simp; omega
    have h2 : ((er2 : Int) == 0) = false := by simp; omega
    simp only [Int.natCast_zero]
    go_wp2_with (first | (go_at_call 10; refine (num_int2 _ _).mono ?_; rintro e w' ⟨rfl, rfl⟩) | fail)
    go_ret
    exact ⟨rfl, HB.out⟩
  subst her
  simp only [Int.natCast_zero]
  obtain ⟨y0, y1, y2, y3, y4, y5, y6, y7⟩ := HNT.out.cells
  have HC : Hid (Calls Try.prog 11 #[x.val, .int .i64 1] w5 _) := bui_any HIN.out 1
  have HMA : Hid ((buildOf t 1).1.es.length ≤ 4096 ∧ (buildOf t 1).1.rs.length ≤ 4096) := mach_bounds t 1
  have HMB : Hid ((buildOf t2 2).1.es.length ≤ 4096 ∧ (buildOf t2 2).1.rs.length ≤ 4096) := mach_bounds t2 2
  unfold Nd.val at HC
  go_wp2_with (first | (go_at_call 10; refine (num_int2 _ _).mono ?_; rintro e w' ⟨rfl, rfl⟩) | fail)
  have HIN0 := HIN
  have HNT0 := HNT
  have HBW := HB
  have HB0 : Hid (Below w5.heap.size w5 w5) := Below.refl _ _
  refine HC.out.mono ?_
  rintro e v1 ⟨kc, ya, ek, rfl, hm⟩
  have HOA : Hid (Own v1 w5.heap.size (buildOf t 1).1 ya) := hm
  have HRA : Hid (Rng w5.heap.size v1.heap.size ya) := hm.rng
  have HZv1 : Hid (w5.heap.size ≤ v1.heap.size) := kc.size
  clear HC hm
  try clear y0 y1 y2 y3 y4 y5 y6 y7
  try clear z0 z1 z2
  try clear z3 z4 z5
  have HB' : Hid (Below w.heap.size w v1) := below_step HB.out kc
  have HIN' : Hid (InAt v1 t x) := HIN.out.later kc
  have HNT' : Hid (NB v1 TT x) := HNT.out.later kc
  have HIU' : Hid (InAt v1 t2 x2) := HIU.out.later kc
  have HNU' : Hid (NB v1 UU x2) := HNU.out.later kc
  have HB0' : Hid (Below w5.heap.size w5 v1) := below_step HB0.out kc
  clear HB HIN HNT HIU HNU HB0
  have HB := HB'
  have HIN := HIN'
  have HNT := HNT'
  have HIU := HIU'
  have HNU := HNU'
  have HB0 := HB0'
  clear HB' HIN' HNT' HIU' HNU' HB0'
  clear kc
  obtain ⟨MA, hMA⟩ : ∃ M, (buildOf t 1).1 = M := ⟨_, rfl⟩
  rw [hMA] at HOA HMA
  have HEA : Hid ((buildOf t 1).1 = MA) := hMA
  clear hMA
  obtain ⟨MB, hMB⟩ : ∃ M, (buildOf t2 2).1 = M := ⟨_, rfl⟩
  rw [hMB] at HMB
  have HEB : Hid ((buildOf t2 2).1 = MB) := hMB
  clear hMB
  have kk : Below v1.heap.size v1 (v1.alloc (.cells #[.int .i64 ya.S, .slice ya.ea ya.en ya.ec, .slice ya.ra ya.rn ya.rc] 38)) := (Below.refl _ _).alloc (Nat.le_refl _) _
  have HSz : Hid (v1.heap.size < (v1.alloc (.cells #[.int .i64 ya.S, .slice ya.ea ya.en ya.ec, .slice ya.ra ya.rn ya.rc] 38)).heap.size) := by show _ < _; simp
  have HB' : Hid (Below w.heap.size w (v1.alloc (.cells #[.int .i64 ya.S, .slice ya.ea ya.en ya.ec, .slice ya.ra ya.rn ya.rc] 38))) := below_step HB.out kk
  have HIN' : Hid (InAt (v1.alloc (.cells #[.int .i64 ya.S, .slice ya.ea ya.en ya.ec, .slice ya.ra ya.rn ya.rc] 38)) t x) := HIN.out.later kk
  have HNT' : Hid (NB (v1.alloc (.cells #[.int .i64 ya.S, .slice ya.ea ya.en ya.ec, .slice ya.ra ya.rn ya.rc] 38)) TT x) := HNT.out.later kk
  have HIU' : Hid (InAt (v1.alloc (.cells #[.int .i64 ya.S, .slice ya.ea ya.en ya.ec, .slice ya.ra ya.rn ya.rc] 38)) t2 x2) := HIU.out.later kk
  have HNU' : Hid (NB (v1.alloc (.cells #[.int .i64 ya.S, .slice ya.ea ya.en ya.ec, .slice ya.ra ya.rn ya.rc] 38)) UU x2) := HNU.out.later kk
  have HB0' : Hid (Below w5.heap.size w5 (v1.alloc (.cells #[.int .i64 ya.S, .slice ya.ea ya.en ya.ec, .slice ya.ra ya.rn ya.rc] 38))) := below_step HB0.out kk
  have HOA' : Hid (Own (v1.alloc (.cells #[.int .i64 ya.S, .slice ya.ea ya.en ya.ec, .slice ya.ra ya.rn ya.rc] 38)) w5.heap.size MA ya) := HOA.out.later kk
  clear HB HIN HNT HIU HNU HB0 HOA
  have HB := HB'
  have HIN := HIN'
  have HNT := HNT'
  have HIU := HIU'
  have HNU := HNU'
  have HB0 := HB0'
  have HOA := HOA'
  clear HB' HIN' HNT' HIU' HNU' HB0' HOA'
  have HNA : Hid (NFB (v1.alloc (.cells #[.int .i64 ya.S, .slice ya.ea ya.en ya.ec, .slice ya.ra ya.rn ya.rc] 38)) v1.heap.size ya) := nfb_new v1 ya
  unfold Nf.val
  go_upto_region 8 with fail
  obtain ⟨v2, hq⟩ : ∃ q, v1.alloc (.cells #[.int .i64 ya.S, .slice ya.ea ya.en ya.ec, .slice ya.ra ya.rn ya.rc] 38) = q := ⟨_, rfl⟩
  obtain ⟨A, hb⟩ : ∃ q, v1.heap.size = q := ⟨_, rfl⟩
  rw [hq] at HSz HB HIN HNT HIU HNU HB0 HOA HNA ⊢
  rw [hb] at HNA ⊢
  have HZv2 : Hid (v1.heap.size < v2.heap.size) := HSz
  clear hq hb kk HSz
  obtain ⟨y0, y1, y2, y3, y4, y5, y6, y7⟩ := HNU.out.cells
  have HC : Hid (Calls Try.prog 11 #[x2.val, .int .i64 2] v2 _) := bui_any HIU.out 2
  unfold Nd.val at HC
  go_wp2_with fail
  refine HC.out.mono ?_
  rintro e v3 ⟨kc, yb, ek, rfl, hm⟩
  have HOB : Hid (Own v3 v2.heap.size (buildOf t2 2).1 yb) := hm
  have HRB : Hid (Rng v2.heap.size v3.heap.size yb) := hm.rng
  have HZv3 : Hid (v2.heap.size ≤ v3.heap.size) := kc.size
  clear HC hm
  try clear y0 y1 y2 y3 y4 y5 y6 y7
  try clear z0 z1 z2
  try clear z3 z4 z5
  have HB' : Hid (Below w.heap.size w v3) := below_step HB.out kc
  have HIN' : Hid (InAt v3 t x) := HIN.out.later kc
  have HNT' : Hid (NB v3 TT x) := HNT.out.later kc
  have HIU' : Hid (InAt v3 t2 x2) := HIU.out.later kc
  have HNU' : Hid (NB v3 UU x2) := HNU.out.later kc
  have HB0' : Hid (Below w5.heap.size w5 v3) := below_step HB0.out kc
  have HOA' : Hid (Own v3 w5.heap.size MA ya) := HOA.out.later kc
  have HNA' : Hid (NFB v3 A ya) := HNA.out.later kc
  clear HB HIN HNT HIU HNU HB0 HOA HNA
  have HB := HB'
  have HIN := HIN'
  have HNT := HNT'
  have HIU := HIU'
  have HNU := HNU'
  have HB0 := HB0'
  have HOA := HOA'
  have HNA := HNA'
  clear HB' HIN' HNT' HIU' HNU' HB0' HOA' HNA'
  clear kc
  rw [HEB.out] at HOB
  clear HIU HNU HEB
  have kk : Below v3.heap.size v3 (v3.alloc (.cells #[.int .i64 yb.S, .slice yb.ea yb.en yb.ec, .slice yb.ra yb.rn yb.rc] 38)) := (Below.refl _ _).alloc (Nat.le_refl _) _
  have HSz : Hid (v3.heap.size < (v3.alloc (.cells #[.int .i64 yb.S, .slice yb.ea yb.en yb.ec, .slice yb.ra yb.rn yb.rc] 38)).heap.size) := by show _ < _; simp
  have HB' : Hid (Below w.heap.size w (v3.alloc (.cells #[.int .i64 yb.S, .slice yb.ea yb.en yb.ec, .slice yb.ra yb.rn yb.rc] 38))) := below_step HB.out kk
  have HIN' : Hid (InAt (v3.alloc (.cells #[.int .i64 yb.S, .slice yb.ea yb.en yb.ec, .slice yb.ra yb.rn yb.rc] 38)) t x) := HIN.out.later kk
  have HNT' : Hid (NB (v3.alloc (.cells #[.int .i64 yb.S, .slice yb.ea yb.en yb.ec, .slice yb.ra yb.rn yb.rc] 38)) TT x) := HNT.out.later kk
  have HB0' : Hid (Below w5.heap.size w5 (v3.alloc (.cells #[.int .i64 yb.S, .slice yb.ea yb.en yb.ec, .slice yb.ra yb.rn yb.rc] 38))) := below_step HB0.out kk
  have HOA' : Hid (Own (v3.alloc (.cells #[.int .i64 yb.S, .slice yb.ea yb.en yb.ec, .slice yb.ra yb.rn yb.rc] 38)) w5.heap.size MA ya) := HOA.out.later kk
  have HNA' : Hid (NFB (v3.alloc (.cells #[.int .i64 yb.S, .slice yb.ea yb.en yb.ec, .slice yb.ra yb.rn yb.rc] 38)) A ya) := HNA.out.later kk
  have HOB' : Hid (Own (v3.alloc (.cells #[.int .i64 yb.S, .slice yb.ea yb.en yb.ec, .slice yb.ra yb.rn yb.rc] 38)) v2.heap.size MB yb) := HOB.out.later kk
  clear HB HIN HNT HB0 HOA HNA HOB
  have HB := HB'
  have HIN := HIN'
  have HNT := HNT'
  have HB0 := HB0'
  have HOA := HOA'
  have HNA := HNA'
  have HOB := HOB'
  clear HB' HIN' HNT' HB0' HOA' HNA' HOB'
  have HNB : Hid (NFB (v3.alloc (.cells #[.int .i64 yb.S, .slice yb.ea yb.en yb.ec, .slice yb.ra yb.rn yb.rc] 38)) v3.heap.size yb) := nfb_new v3 yb
  unfold Nf.val
  go_upto_region 9 with fail
  obtain ⟨v4, hq⟩ : ∃ q, v3.alloc (.cells #[.int .i64 yb.S, .slice yb.ea yb.en yb.ec, .slice yb.ra yb.rn yb.rc] 38) = q := ⟨_, rfl⟩
  obtain ⟨B, hb⟩ : ∃ q, v3.heap.size = q := ⟨_, rfl⟩
  rw [hq] at HSz HB HIN HNT HB0 HOA HNA HOB HNB ⊢
  rw [hb] at HNB ⊢
  have HZv4 : Hid (v3.heap.size < v4.heap.size) := HSz
  clear hq hb kk HSz
  obtain ⟨y0, y1, y2, y3, y4, y5, y6, y7⟩ := HNT.out.cells
  have HC : Hid (Calls Try.prog 11 #[x.val, .int .i64 1] v4 _) := bui_any HIN.out 1
  rw [HEA.out] at HC
  unfold Nd.val at HC
  go_wp2_with fail
  refine HC.out.mono ?_
  rintro e v5 ⟨kc, yc, ek, rfl, hm⟩
  have HOC : Hid (Own v5 v4.heap.size MA yc) := hm
  have HRC : Hid (Rng v4.heap.size v5.heap.size yc) := hm.rng
  have HZv5 : Hid (v4.heap.size ≤ v5.heap.size) := kc.size
  clear HC hm
  try clear y0 y1 y2 y3 y4 y5 y6 y7
  try clear z0 z1 z2
  try clear z3 z4 z5
  have HB' : Hid (Below w.heap.size w v5) := below_step HB.out kc
  have HIN' : Hid (InAt v5 t x) := HIN.out.later kc
  have HNT' : Hid (NB v5 TT x) := HNT.out.later kc
  have HB0' : Hid (Below w5.heap.size w5 v5) := below_step HB0.out kc
  have HOA' : Hid (Own v5 w5.heap.size MA ya) := HOA.out.later kc
  have HNA' : Hid (NFB v5 A ya) := HNA.out.later kc
  have HOB' : Hid (Own v5 v2.heap.size MB yb) := HOB.out.later kc
  have HNB' : Hid (NFB v5 B yb) := HNB.out.later kc
  clear HB HIN HNT HB0 HOA HNA HOB HNB
  have HB := HB'
  have HIN := HIN'
  have HNT := HNT'
  have HB0 := HB0'
  have HOA := HOA'
  have HNA := HNA'
  have HOB := HOB'
  have HNB := HNB'
  clear HB' HIN' HNT' HB0' HOA' HNA' HOB' HNB'
  clear kc
  have kk : Below v5.heap.size v5 (v5.alloc (.cells #[.int .i64 yc.S, .slice yc.ea yc.en yc.ec, .slice yc.ra yc.rn yc.rc] 38)) := (Below.refl _ _).alloc (Nat.le_refl _) _
  have HSz : Hid (v5.heap.size < (v5.alloc (.cells #[.int .i64 yc.S, .slice yc.ea yc.en yc.ec, .slice yc.ra yc.rn yc.rc] 38)).heap.size) := by show _ < _; simp
  have HB' : Hid (Below w.heap.size w (v5.alloc (.cells #[.int .i64 yc.S, .slice yc.ea yc.en yc.ec, .slice yc.ra yc.rn yc.rc] 38))) := below_step HB.out kk
  have HIN' : Hid (InAt (v5.alloc (.cells #[.int .i64 yc.S, .slice yc.ea yc.en yc.ec, .slice yc.ra yc.rn yc.rc] 38)) t x) := HIN.out.later kk
  have HNT' : Hid (NB (v5.alloc (.cells #[.int .i64 yc.S, .slice yc.ea yc.en yc.ec, .slice yc.ra yc.rn yc.rc] 38)) TT x) := HNT.out.later kk
  have HB0' : Hid (Below w5.heap.size w5 (v5.alloc (.cells #[.int .i64 yc.S, .slice yc.ea yc.en yc.ec, .slice yc.ra yc.rn yc.rc] 38))) := below_step HB0.out kk
  have HOA' : Hid (Own (v5.alloc (.cells #[.int .i64 yc.S, .slice yc.ea yc.en yc.ec, .slice yc.ra yc.rn yc.rc] 38)) w5.heap.size MA ya) := HOA.out.later kk
  have HNA' : Hid (NFB (v5.alloc (.cells #[.int .i64 yc.S, .slice yc.ea yc.en yc.ec, .slice yc.ra yc.rn yc.rc] 38)) A ya) := HNA.out.later kk
  have HOB' : Hid (Own (v5.alloc (.cells #[.int .i64 yc.S, .slice yc.ea yc.en yc.ec, .slice yc.ra yc.rn yc.rc] 38)) v2.heap.size MB yb) := HOB.out.later kk
  have HNB' : Hid (NFB (v5.alloc (.cells #[.int .i64 yc.S, .slice yc.ea yc.en yc.ec, .slice yc.ra yc.rn yc.rc] 38)) B yb) := HNB.out.later kk
  have HOC' : Hid (Own (v5.alloc (.cells #[.int .i64 yc.S, .slice yc.ea yc.en yc.ec, .slice yc.ra yc.rn yc.rc] 38)) v4.heap.size MA yc) := HOC.out.later kk
  clear HB HIN HNT HB0 HOA HNA HOB HNB HOC
  have HB := HB'
  have HIN := HIN'
  have HNT := HNT'
  have HB0 := HB0'
  have HOA := HOA'
  have HNA := HNA'
  have HOB := HOB'
  have HNB := HNB'
  have HOC := HOC'
  clear HB' HIN' HNT' HB0' HOA' HNA' HOB' HNB' HOC'
  have HNC : Hid (NFB (v5.alloc (.cells #[.int .i64 yc.S, .slice yc.ea yc.en yc.ec, .slice yc.ra yc.rn yc.rc] 38)) v5.heap.size yc) := nfb_new v5 yc
  unfold Nf.val
  go_upto_region 10 with fail
  obtain ⟨v6, hq⟩ : ∃ q, v5.alloc (.cells #[.int .i64 yc.S, .slice yc.ea yc.en yc.ec, .slice yc.ra yc.rn yc.rc] 38) = q := ⟨_, rfl⟩
  obtain ⟨C, hb⟩ : ∃ q, v5.heap.size = q := ⟨_, rfl⟩
  rw [hq] at HSz HB HIN HNT HB0 HOA HNA HOB HNB HOC HNC ⊢
  rw [hb] at HNC ⊢
  have HZv6 : Hid (v5.heap.size < v6.heap.size) := HSz
  clear hq hb kk HSz
  refine reg10 rfl rfl rfl HNA.out HNB.out HOA.out.ma HOB.out.ma (by have := HMA.out; omega) (by have := HMA.out; omega) (by have := HMB.out; omega) (by have := HMB.out; omega) ?_
  intro a' v7 X Y xa xb hfr kc e17 e18 n17 n18 c17 c18
  obtain ⟨q1, q2, q3, q4, ha'⟩ := fr10_put hfr rfl e17 e18
  subst ha'
  have HNX : Hid (NFB v7 X xa) := n17
  have HNY : Hid (NFB v7 Y xb) := n18
  have HCX : Hid (Cop (fun b => v6.heap.size ≤ b ∧ b < v7.heap.size) v7 MA xa) := c17.keep (fun b hb hlt => ⟨hb, hlt⟩) (fun _ _ _ => rfl)
  have HCY : Hid (Cop (fun b => v6.heap.size ≤ b ∧ b < v7.heap.size) v7 MB xb) := c18.keep (fun b hb hlt => ⟨hb, hlt⟩) (fun _ _ _ => rfl)
  have HZv7 : Hid (v6.heap.size ≤ v7.heap.size) := kc.size
  clear hfr e17 e18 n17 n18 c17 c18
  have HB' : Hid (Below w.heap.size w v7) := below_step HB.out kc
  have HIN' : Hid (InAt v7 t x) := HIN.out.later kc
  have HNT' : Hid (NB v7 TT x) := HNT.out.later kc
  have HB0' : Hid (Below w5.heap.size w5 v7) := below_step HB0.out kc
  have HOA' : Hid (Own v7 w5.heap.size MA ya) := HOA.out.later kc
  have HNA' : Hid (NFB v7 A ya) := HNA.out.later kc
  have HOB' : Hid (Own v7 v2.heap.size MB yb) := HOB.out.later kc
  have HNB' : Hid (NFB v7 B yb) := HNB.out.later kc
  have HOC' : Hid (Own v7 v4.heap.size MA yc) := HOC.out.later kc
  have HNC' : Hid (NFB v7 C yc) := HNC.out.later kc
  clear HB HIN HNT HB0 HOA HNA HOB HNB HOC HNC
  have HB := HB'
  have HIN := HIN'
  have HNT := HNT'
  have HB0 := HB0'
  have HOA := HOA'
  have HNA := HNA'
  have HOB := HOB'
  have HNB := HNB'
  have HOC := HOC'
  have HNC := HNC'
  clear HB' HIN' HNT' HB0' HOA' HNA' HOB' HNB' HOC' HNC'
  clear kc
  obtain ⟨z0, z1, z2⟩ := HNA.out.cells
  obtain ⟨z3, z4, z5⟩ := HNB.out.cells
  have kk : Below v7.heap.size v7 (v7.alloc (.cells #[.int .i64 ya.S, .slice ya.ea ya.en ya.ec, .slice ya.ra ya.rn ya.rc, .int .i64 yb.S, .slice yb.ea yb.en yb.ec, .slice yb.ra yb.rn yb.rc] 38)) := (Below.refl _ _).alloc (Nat.le_refl _) _
  have HSz : Hid (v7.heap.size < (v7.alloc (.cells #[.int .i64 ya.S, .slice ya.ea ya.en ya.ec, .slice ya.ra ya.rn ya.rc, .int .i64 yb.S, .slice yb.ea yb.en yb.ec, .slice yb.ra yb.rn yb.rc] 38)).heap.size) := by show _ < _; simp
  have HB' : Hid (Below w.heap.size w (v7.alloc (.cells #[.int .i64 ya.S, .slice ya.ea ya.en ya.ec, .slice ya.ra ya.rn ya.rc, .int .i64 yb.S, .slice yb.ea yb.en yb.ec, .slice yb.ra yb.rn yb.rc] 38))) := below_step HB.out kk
  have HIN' : Hid (InAt (v7.alloc (.cells #[.int .i64 ya.S, .slice ya.ea ya.en ya.ec, .slice ya.ra ya.rn ya.rc, .int .i64 yb.S, .slice yb.ea yb.en yb.ec, .slice yb.ra yb.rn yb.rc] 38)) t x) := HIN.out.later kk
  have HNT' : Hid (NB (v7.alloc (.cells #[.int .i64 ya.S, .slice ya.ea ya.en ya.ec, .slice ya.ra ya.rn ya.rc, .int .i64 yb.S, .slice yb.ea yb.en yb.ec, .slice yb.ra yb.rn yb.rc] 38)) TT x) := HNT.out.later kk
  have HB0' : Hid (Below w5.heap.size w5 (v7.alloc (.cells #[.int .i64 ya.S, .slice ya.ea ya.en ya.ec, .slice ya.ra ya.rn ya.rc, .int .i64 yb.S, .slice yb.ea yb.en yb.ec, .slice yb.ra yb.rn yb.rc] 38))) := below_step HB0.out kk
  have HOA' : Hid (Own (v7.alloc (.cells #[.int .i64 ya.S, .slice ya.ea ya.en ya.ec, .slice ya.ra ya.rn ya.rc, .int .i64 yb.S, .slice yb.ea yb.en yb.ec, .slice yb.ra yb.rn yb.rc] 38)) w5.heap.size MA ya) := HOA.out.later kk
  have HNA' : Hid (NFB (v7.alloc (.cells #[.int .i64 ya.S, .slice ya.ea ya.en ya.ec, .slice ya.ra ya.rn ya.rc, .int .i64 yb.S, .slice yb.ea yb.en yb.ec, .slice yb.ra yb.rn yb.rc] 38)) A ya) := HNA.out.later kk
  have HOB' : Hid (Own (v7.alloc (.cells #[.int .i64 ya.S, .slice ya.ea ya.en ya.ec, .slice ya.ra ya.rn ya.rc, .int .i64 yb.S, .slice yb.ea yb.en yb.ec, .slice yb.ra yb.rn yb.rc] 38)) v2.heap.size MB yb) := HOB.out.later kk
  have HNB' : Hid (NFB (v7.alloc (.cells #[.int .i64 ya.S, .slice ya.ea ya.en ya.ec, .slice ya.ra ya.rn ya.rc, .int .i64 yb.S, .slice yb.ea yb.en yb.ec, .slice yb.ra yb.rn yb.rc] 38)) B yb) := HNB.out.later kk
  have HOC' : Hid (Own (v7.alloc (.cells #[.int .i64 ya.S, .slice ya.ea ya.en ya.ec, .slice ya.ra ya.rn ya.rc, .int .i64 yb.S, .slice yb.ea yb.en yb.ec, .slice yb.ra yb.rn yb.rc] 38)) v4.heap.size MA yc) := HOC.out.later kk
  have HNC' : Hid (NFB (v7.alloc (.cells #[.int .i64 ya.S, .slice ya.ea ya.en ya.ec, .slice ya.ra ya.rn ya.rc, .int .i64 yb.S, .slice yb.ea yb.en yb.ec, .slice yb.ra yb.rn yb.rc] 38)) C yc) := HNC.out.later kk
  have HNX' : Hid (NFB (v7.alloc (.cells #[.int .i64 ya.S, .slice ya.ea ya.en ya.ec, .slice ya.ra ya.rn ya.rc, .int .i64 yb.S, .slice yb.ea yb.en yb.ec, .slice yb.ra yb.rn yb.rc] 38)) X xa) := HNX.out.later kk
  have HNY' : Hid (NFB (v7.alloc (.cells #[.int .i64 ya.S, .slice ya.ea ya.en ya.ec, .slice ya.ra ya.rn ya.rc, .int .i64 yb.S, .slice yb.ea yb.en yb.ec, .slice yb.ra yb.rn yb.rc] 38)) Y xb) := HNY.out.later kk
  have HCX' : Hid (Cop (fun b => v6.heap.size ≤ b ∧ b < v7.heap.size) (v7.alloc (.cells #[.int .i64 ya.S, .slice ya.ea ya.en ya.ec, .slice ya.ra ya.rn ya.rc, .int .i64 yb.S, .slice yb.ea yb.en yb.ec, .slice yb.ra yb.rn yb.rc] 38)) MA xa) := HCX.out.later kk
  have HCY' : Hid (Cop (fun b => v6.heap.size ≤ b ∧ b < v7.heap.size) (v7.alloc (.cells #[.int .i64 ya.S, .slice ya.ea ya.en ya.ec, .slice ya.ra ya.rn ya.rc, .int .i64 yb.S, .slice yb.ea yb.en yb.ec, .slice yb.ra yb.rn yb.rc] 38)) MB xb) := HCY.out.later kk
  clear HB HIN HNT HB0 HOA HNA HOB HNB HOC HNC HNX HNY HCX HCY
  have HB := HB'
  have HIN := HIN'
  have HNT := HNT'
  have HB0 := HB0'
  have HOA := HOA'
  have HNA := HNA'
  have HOB := HOB'
  have HNB := HNB'
  have HOC := HOC'
  have HNC := HNC'
  have HNX := HNX'
  have HNY := HNY'
  have HCX := HCX'
  have HCY := HCY'
  clear HB' HIN' HNT' HB0' HOA' HNA' HOB' HNB' HOC' HNC' HNX' HNY' HCX' HCY'
  have HC : Hid (Calls Try.prog 21 #[.slice (some ⟨v7.heap.size, 0, none⟩) 2 2] (v7.alloc (.cells #[.int .i64 ya.S, .slice ya.ea ya.en ya.ec, .slice ya.ra ya.rn ya.rc, .int .i64 yb.S, .slice yb.ea yb.en yb.ec, .slice yb.ra yb.rn yb.rc] 38)) _) := uni_any HMA.out.1 HMA.out.2 HMB.out.1 HMB.out.2 HOA.out.ma HOB.out.ma (heap_alloc_new v7 _)
  clear kk
  go_wp2_with fail
  refine HC.out.mono ?_
  rintro e v9 ⟨kc, yd, ek, rfl, hm⟩
  clear HC
  obtain ⟨v8, hq⟩ : ∃ q, v7.alloc (.cells #[.int .i64 ya.S, .slice ya.ea ya.en ya.ec, .slice ya.ra ya.rn ya.rc, .int .i64 yb.S, .slice yb.ea yb.en yb.ec, .slice yb.ra yb.rn yb.rc] 38) = q := ⟨_, rfl⟩
  rw [hq] at HSz kc hm HB HIN HNT HB0 HOA HNA HOB HNB HOC HNC HNX HNY HCX HCY
  have HZv8 : Hid (v7.heap.size < v8.heap.size) := HSz
  have HOD : Hid (Own v9 v8.heap.size (unionOf [MA, MB]).1 yd) := hm
  have HRD : Hid (Rng v8.heap.size v9.heap.size yd) := hm.rng
  have HZv9 : Hid (v8.heap.size ≤ v9.heap.size) := kc.size
  clear hq hm HSz z0 z1 z2 z3 z4 z5
  have HB' : Hid (Below w.heap.size w v9) := below_step HB.out kc
  have HIN' : Hid (InAt v9 t x) := HIN.out.later kc
  have HNT' : Hid (NB v9 TT x) := HNT.out.later kc
  have HB0' : Hid (Below w5.heap.size w5 v9) := below_step HB0.out kc
  have HOA' : Hid (Own v9 w5.heap.size MA ya) := HOA.out.later kc
  have HNA' : Hid (NFB v9 A ya) := HNA.out.later kc
  have HOB' : Hid (Own v9 v2.heap.size MB yb) := HOB.out.later kc
  have HNB' : Hid (NFB v9 B yb) := HNB.out.later kc
  have HOC' : Hid (Own v9 v4.heap.size MA yc) := HOC.out.later kc
  have HNC' : Hid (NFB v9 C yc) := HNC.out.later kc
  have HNX' : Hid (NFB v9 X xa) := HNX.out.later kc
  have HNY' : Hid (NFB v9 Y xb) := HNY.out.later kc
  have HCX' : Hid (Cop (fun b => v6.heap.size ≤ b ∧ b < v7.heap.size) v9 MA xa) := HCX.out.later kc
  have HCY' : Hid (Cop (fun b => v6.heap.size ≤ b ∧ b < v7.heap.size) v9 MB xb) := HCY.out.later kc
  clear HB HIN HNT HB0 HOA HNA HOB HNB HOC HNC HNX HNY HCX HCY
  have HB := HB'
  have HIN := HIN'
  have HNT := HNT'
  have HB0 := HB0'
  have HOA := HOA'
  have HNA := HNA'
  have HOB := HOB'
  have HNB := HNB'
  have HOC := HOC'
  have HNC := HNC'
  have HNX := HNX'
  have HNY := HNY'
  have HCX := HCX'
  have HCY := HCY'
  clear HB' HIN' HNT' HB0' HOA' HNA' HOB' HNB' HOC' HNC' HNX' HNY' HCX' HCY'
  clear kc
  obtain ⟨MD, hMD⟩ : ∃ M, (unionOf [MA, MB]).1 = M := ⟨_, rfl⟩
  have HMD : Hid (MD.es.length ≤ 10000 ∧ MD.rs.length ≤ 10000) := by rw [← hMD]; exact union_two HMA.out.1 HMA.out.2 HMB.out.1 HMB.out.2
  rw [hMD] at HOD
  have HED : Hid ((unionOf [MA, MB]).1 = MD) := hMD
  clear hMD
  have kk : Below v9.heap.size v9 (v9.alloc (.cells #[.int .i64 yd.S, .slice yd.ea yd.en yd.ec, .slice yd.ra yd.rn yd.rc] 38)) := (Below.refl _ _).alloc (Nat.le_refl _) _
  have HSz : Hid (v9.heap.size < (v9.alloc (.cells #[.int .i64 yd.S, .slice yd.ea yd.en yd.ec, .slice yd.ra yd.rn yd.rc] 38)).heap.size) := by show _ < _; simp
  have HB' : Hid (Below w.heap.size w (v9.alloc (.cells #[.int .i64 yd.S, .slice yd.ea yd.en yd.ec, .slice yd.ra yd.rn yd.rc] 38))) := below_step HB.out kk
  have HIN' : Hid (InAt (v9.alloc (.cells #[.int .i64 yd.S, .slice yd.ea yd.en yd.ec, .slice yd.ra yd.rn yd.rc] 38)) t x) := HIN.out.later kk
  have HNT' : Hid (NB (v9.alloc (.cells #[.int .i64 yd.S, .slice yd.ea yd.en yd.ec, .slice yd.ra yd.rn yd.rc] 38)) TT x) := HNT.out.later kk
  have HB0' : Hid (Below w5.heap.size w5 (v9.alloc (.cells #[.int .i64 yd.S, .slice yd.ea yd.en yd.ec, .slice yd.ra yd.rn yd.rc] 38))) := below_step HB0.out kk
  have HOA' : Hid (Own (v9.alloc (.cells #[.int .i64 yd.S, .slice yd.ea yd.en yd.ec, .slice yd.ra yd.rn yd.rc] 38)) w5.heap.size MA ya) := HOA.out.later kk
  have HNA' : Hid (NFB (v9.alloc (.cells #[.int .i64 yd.S, .slice yd.ea yd.en yd.ec, .slice yd.ra yd.rn yd.rc] 38)) A ya) := HNA.out.later kk
  have HOB' : Hid (Own (v9.alloc (.cells #[.int .i64 yd.S, .slice yd.ea yd.en yd.ec, .slice yd.ra yd.rn yd.rc] 38)) v2.heap.size MB yb) := HOB.out.later kk
  have HNB' : Hid (NFB (v9.alloc (.cells #[.int .i64 yd.S, .slice yd.ea yd.en yd.ec, .slice yd.ra yd.rn yd.rc] 38)) B yb) := HNB.out.later kk
  have HOC' : Hid (Own (v9.alloc (.cells #[.int .i64 yd.S, .slice yd.ea yd.en yd.ec, .slice yd.ra yd.rn yd.rc] 38)) v4.heap.size MA yc) := HOC.out.later kk
  have HNC' : Hid (NFB (v9.alloc (.cells #[.int .i64 yd.S, .slice yd.ea yd.en yd.ec, .slice yd.ra yd.rn yd.rc] 38)) C yc) := HNC.out.later kk
  have HNX' : Hid (NFB (v9.alloc (.cells #[.int .i64 yd.S, .slice yd.ea yd.en yd.ec, .slice yd.ra yd.rn yd.rc] 38)) X xa) := HNX.out.later kk
  have HNY' : Hid (NFB (v9.alloc (.cells #[.int .i64 yd.S, .slice yd.ea yd.en yd.ec, .slice yd.ra yd.rn yd.rc] 38)) Y xb) := HNY.out.later kk
  have HCX' : Hid (Cop (fun b => v6.heap.size ≤ b ∧ b < v7.heap.size) (v9.alloc (.cells #[.int .i64 yd.S, .slice yd.ea yd.en yd.ec, .slice yd.ra yd.rn yd.rc] 38)) MA xa) := HCX.out.later kk
  have HCY' : Hid (Cop (fun b => v6.heap.size ≤ b ∧ b < v7.heap.size) (v9.alloc (.cells #[.int .i64 yd.S, .slice yd.ea yd.en yd.ec, .slice yd.ra yd.rn yd.rc] 38)) MB xb) := HCY.out.later kk
  have HOD' : Hid (Own (v9.alloc (.cells #[.int .i64 yd.S, .slice yd.ea yd.en yd.ec, .slice yd.ra yd.rn yd.rc] 38)) v8.heap.size MD yd) := HOD.out.later kk
  clear HB HIN HNT HB0 HOA HNA HOB HNB HOC HNC HNX HNY HCX HCY HOD
  have HB := HB'
  have HIN := HIN'
  have HNT := HNT'
  have HB0 := HB0'
  have HOA := HOA'
  have HNA := HNA'
  have HOB := HOB'
  have HNB := HNB'
  have HOC := HOC'
  have HNC := HNC'
  have HNX := HNX'
  have HNY := HNY'
  have HCX := HCX'
  have HCY := HCY'
  have HOD := HOD'
  clear HB' HIN' HNT' HB0' HOA' HNA' HOB' HNB' HOC' HNC' HNX' HNY' HCX' HCY' HOD'
  have HND : Hid (NFB (v9.alloc (.cells #[.int .i64 yd.S, .slice yd.ea yd.en yd.ec, .slice yd.ra yd.rn yd.rc] 38)) v9.heap.size yd) := nfb_new v9 yd
  unfold Nf.val
  go_upto_region 12 with fail
  obtain ⟨v10, hq⟩ : ∃ q, v9.alloc (.cells #[.int .i64 yd.S, .slice yd.ea yd.en yd.ec, .slice yd.ra yd.rn yd.rc] 38) = q := ⟨_, rfl⟩
  obtain ⟨DD, hb⟩ : ∃ q, v9.heap.size = q := ⟨_, rfl⟩
  rw [hq] at HSz HB HIN HNT HB0 HOA HNA HOB HNB HOC HNC HNX HNY HCX HCY HOD HND ⊢
  rw [hb] at HND ⊢
  have HZv10 : Hid (v9.heap.size < v10.heap.size) := HSz
  clear hq hb kk HSz
  obtain ⟨z0, z1, z2⟩ := HND.out.cells
  have HC : Hid (Calls Try.prog 20 #[yd.val] v10 _) := copied_any v10 HOD.out.ma (by have := HMD.out; omega) (by have := HMD.out; omega)
  unfold Nf.val at HC
  go_wp2_with fail
  refine HC.out.mono ?_
  rintro e v11 ⟨kc, xw, rfl, hm⟩
  have HCW : Hid (Cop (fun b => v10.heap.size ≤ b ∧ b < v11.heap.size) v11 MD xw) := hm.keep (fun b hb hlt => ⟨hb.1, hlt⟩) (fun _ _ _ => rfl)
  have HZv11 : Hid (v10.heap.size ≤ v11.heap.size) := kc.size
  clear HC hm z0 z1 z2
  have HB' : Hid (Below w.heap.size w v11) := below_step HB.out kc
  have HIN' : Hid (InAt v11 t x) := HIN.out.later kc
  have HNT' : Hid (NB v11 TT x) := HNT.out.later kc
  have HB0' : Hid (Below w5.heap.size w5 v11) := below_step HB0.out kc
  have HOA' : Hid (Own v11 w5.heap.size MA ya) := HOA.out.later kc
  have HNA' : Hid (NFB v11 A ya) := HNA.out.later kc
  have HOB' : Hid (Own v11 v2.heap.size MB yb) := HOB.out.later kc
  have HNB' : Hid (NFB v11 B yb) := HNB.out.later kc
  have HOC' : Hid (Own v11 v4.heap.size MA yc) := HOC.out.later kc
  have HNC' : Hid (NFB v11 C yc) := HNC.out.later kc
  have HNX' : Hid (NFB v11 X xa) := HNX.out.later kc
  have HNY' : Hid (NFB v11 Y xb) := HNY.out.later kc
  have HCX' : Hid (Cop (fun b => v6.heap.size ≤ b ∧ b < v7.heap.size) v11 MA xa) := HCX.out.later kc
  have HCY' : Hid (Cop (fun b => v6.heap.size ≤ b ∧ b < v7.heap.size) v11 MB xb) := HCY.out.later kc
  have HOD' : Hid (Own v11 v8.heap.size MD yd) := HOD.out.later kc
  have HND' : Hid (NFB v11 DD yd) := HND.out.later kc
  clear HB HIN HNT HB0 HOA HNA HOB HNB HOC HNC HNX HNY HCX HCY HOD HND
  have HB := HB'
  have HIN := HIN'
  have HNT := HNT'
  have HB0 := HB0'
  have HOA := HOA'
  have HNA := HNA'
  have HOB := HOB'
  have HNB := HNB'
  have HOC := HOC'
  have HNC := HNC'
  have HNX := HNX'
  have HNY := HNY'
  have HCX := HCX'
  have HCY := HCY'
  have HOD := HOD'
  have HND := HND'
  clear HB' HIN' HNT' HB0' HOA' HNA' HOB' HNB' HOC' HNC' HNX' HNY' HCX' HCY' HOD' HND'
  clear kc
  have kk : Below v11.heap.size v11 (v11.alloc (.cells #[.int .i64 xw.S, .slice xw.ea xw.en xw.ec, .slice xw.ra xw.rn xw.rc] 38)) := (Below.refl _ _).alloc (Nat.le_refl _) _
  have HSz : Hid (v11.heap.size < (v11.alloc (.cells #[.int .i64 xw.S, .slice xw.ea xw.en xw.ec, .slice xw.ra xw.rn xw.rc] 38)).heap.size) := by show _ < _; simp
  have HB' : Hid (Below w.heap.size w (v11.alloc (.cells #[.int .i64 xw.S, .slice xw.ea xw.en xw.ec, .slice xw.ra xw.rn xw.rc] 38))) := below_step HB.out kk
  have HIN' : Hid (InAt (v11.alloc (.cells #[.int .i64 xw.S, .slice xw.ea xw.en xw.ec, .slice xw.ra xw.rn xw.rc] 38)) t x) := HIN.out.later kk
  have HNT' : Hid (NB (v11.alloc (.cells #[.int .i64 xw.S, .slice xw.ea xw.en xw.ec, .slice xw.ra xw.rn xw.rc] 38)) TT x) := HNT.out.later kk
  have HB0' : Hid (Below w5.heap.size w5 (v11.alloc (.cells #[.int .i64 xw.S, .slice xw.ea xw.en xw.ec, .slice xw.ra xw.rn xw.rc] 38))) := below_step HB0.out kk
  have HOA' : Hid (Own (v11.alloc (.cells #[.int .i64 xw.S, .slice xw.ea xw.en xw.ec, .slice xw.ra xw.rn xw.rc] 38)) w5.heap.size MA ya) := HOA.out.later kk
  have HNA' : Hid (NFB (v11.alloc (.cells #[.int .i64 xw.S, .slice xw.ea xw.en xw.ec, .slice xw.ra xw.rn xw.rc] 38)) A ya) := HNA.out.later kk
  have HOB' : Hid (Own (v11.alloc (.cells #[.int .i64 xw.S, .slice xw.ea xw.en xw.ec, .slice xw.ra xw.rn xw.rc] 38)) v2.heap.size MB yb) := HOB.out.later kk
  have HNB' : Hid (NFB (v11.alloc (.cells #[.int .i64 xw.S, .slice xw.ea xw.en xw.ec, .slice xw.ra xw.rn xw.rc] 38)) B yb) := HNB.out.later kk
  have HOC' : Hid (Own (v11.alloc (.cells #[.int .i64 xw.S, .slice xw.ea xw.en xw.ec, .slice xw.ra xw.rn xw.rc] 38)) v4.heap.size MA yc) := HOC.out.later kk
  have HNC' : Hid (NFB (v11.alloc (.cells #[.int .i64 xw.S, .slice xw.ea xw.en xw.ec, .slice xw.ra xw.rn xw.rc] 38)) C yc) := HNC.out.later kk
  have HNX' : Hid (NFB (v11.alloc (.cells #[.int .i64 xw.S, .slice xw.ea xw.en xw.ec, .slice xw.ra xw.rn xw.rc] 38)) X xa) := HNX.out.later kk
  have HNY' : Hid (NFB (v11.alloc (.cells #[.int .i64 xw.S, .slice xw.ea xw.en xw.ec, .slice xw.ra xw.rn xw.rc] 38)) Y xb) := HNY.out.later kk
  have HCX' : Hid (Cop (fun b => v6.heap.size ≤ b ∧ b < v7.heap.size) (v11.alloc (.cells #[.int .i64 xw.S, .slice xw.ea xw.en xw.ec, .slice xw.ra xw.rn xw.rc] 38)) MA xa) := HCX.out.later kk
  have HCY' : Hid (Cop (fun b => v6.heap.size ≤ b ∧ b < v7.heap.size) (v11.alloc (.cells #[.int .i64 xw.S, .slice xw.ea xw.en xw.ec, .slice xw.ra xw.rn xw.rc] 38)) MB xb) := HCY.out.later kk
  have HOD' : Hid (Own (v11.alloc (.cells #[.int .i64 xw.S, .slice xw.ea xw.en xw.ec, .slice xw.ra xw.rn xw.rc] 38)) v8.heap.size MD yd) := HOD.out.later kk
  have HND' : Hid (NFB (v11.alloc (.cells #[.int .i64 xw.S, .slice xw.ea xw.en xw.ec, .slice xw.ra xw.rn xw.rc] 38)) DD yd) := HND.out.later kk
  have HCW' : Hid (Cop (fun b => v10.heap.size ≤ b ∧ b < v11.heap.size) (v11.alloc (.cells #[.int .i64 xw.S, .slice xw.ea xw.en xw.ec, .slice xw.ra xw.rn xw.rc] 38)) MD xw) := HCW.out.later kk
  clear HB HIN HNT HB0 HOA HNA HOB HNB HOC HNC HNX HNY HCX HCY HOD HND HCW
  have HB := HB'
  have HIN := HIN'
  have HNT := HNT'
  have HB0 := HB0'
  have HOA := HOA'
  have HNA := HNA'
  have HOB := HOB'
  have HNB := HNB'
  have HOC := HOC'
  have HNC := HNC'
  have HNX := HNX'
  have HNY := HNY'
  have HCX := HCX'
  have HCY := HCY'
  have HOD := HOD'
  have HND := HND'
  have HCW := HCW'
  clear HB' HIN' HNT' HB0' HOA' HNA' HOB' HNB' HOC' HNC' HNX' HNY' HCX' HCY' HOD' HND' HCW'
  have HNW : Hid (NFB (v11.alloc (.cells #[.int .i64 xw.S, .slice xw.ea xw.en xw.ec, .slice xw.ra xw.rn xw.rc] 38)) v11.heap.size xw) := nfb_new v11 xw
  go_upto_region 13 with fail
  obtain ⟨v12, hq⟩ : ∃ q, v11.alloc (.cells #[.int .i64 xw.S, .slice xw.ea xw.en xw.ec, .slice xw.ra xw.rn xw.rc] 38) = q := ⟨_, rfl⟩
  obtain ⟨WW, hb⟩ : ∃ q, v11.heap.size = q := ⟨_, rfl⟩
  rw [hq] at HSz HB HIN HNT HB0 HOA HNA HOB HNB HOC HNC HNX HNY HCX HCY HOD HND HCW HNW ⊢
  rw [hb] at HNW ⊢
  have HZv12 : Hid (v11.heap.size < v12.heap.size) := HSz
  clear hq hb kk HSz
  obtain ⟨z0, z1, z2⟩ := HNA.out.cells
  obtain ⟨z3, z4, z5⟩ := HNB.out.cells
  have kk : Below v12.heap.size v12 (v12.alloc (.cells #[.int .i64 ya.S, .slice ya.ea ya.en ya.ec, .slice ya.ra ya.rn ya.rc, .int .i64 yb.S, .slice yb.ea yb.en yb.ec, .slice yb.ra yb.rn yb.rc] 38)) := (Below.refl _ _).alloc (Nat.le_refl _) _
  have HSz : Hid (v12.heap.size < (v12.alloc (.cells #[.int .i64 ya.S, .slice ya.ea ya.en ya.ec, .slice ya.ra ya.rn ya.rc, .int .i64 yb.S, .slice yb.ea yb.en yb.ec, .slice yb.ra yb.rn yb.rc] 38)).heap.size) := by show _ < _; simp
  have HB' : Hid (Below w.heap.size w (v12.alloc (.cells #[.int .i64 ya.S, .slice ya.ea ya.en ya.ec, .slice ya.ra ya.rn ya.rc, .int .i64 yb.S, .slice yb.ea yb.en yb.ec, .slice yb.ra yb.rn yb.rc] 38))) := below_step HB.out kk
  have HIN' : Hid (InAt (v12.alloc (.cells #[.int .i64 ya.S, .slice ya.ea ya.en ya.ec, .slice ya.ra ya.rn ya.rc, .int .i64 yb.S, .slice yb.ea yb.en yb.ec, .slice yb.ra yb.rn yb.rc] 38)) t x) := HIN.out.later kk
  have HNT' : Hid (NB (v12.alloc (.cells #[.int .i64 ya.S, .slice ya.ea ya.en ya.ec, .slice ya.ra ya.rn ya.rc, .int .i64 yb.S, .slice yb.ea yb.en yb.ec, .slice yb.ra yb.rn yb.rc] 38)) TT x) := HNT.out.later kk
  have HB0' : Hid (Below w5.heap.size w5 (v12.alloc (.cells #[.int .i64 ya.S, .slice ya.ea ya.en ya.ec, .slice ya.ra ya.rn ya.rc, .int .i64 yb.S, .slice yb.ea yb.en yb.ec, .slice yb.ra yb.rn yb.rc] 38))) := below_step HB0.out kk
  have HOA' : Hid (Own (v12.alloc (.cells #[.int .i64 ya.S, .slice ya.ea ya.en ya.ec, .slice ya.ra ya.rn ya.rc, .int .i64 yb.S, .slice yb.ea yb.en yb.ec, .slice yb.ra yb.rn yb.rc] 38)) w5.heap.size MA ya) := HOA.out.later kk
  have HNA' : Hid (NFB (v12.alloc (.cells #[.int .i64 ya.S, .slice ya.ea ya.en ya.ec, .slice ya.ra ya.rn ya.rc, .int .i64 yb.S, .slice yb.ea yb.en yb.ec, .slice yb.ra yb.rn yb.rc] 38)) A ya) := HNA.out.later kk
  have HOB' : Hid (Own (v12.alloc (.cells #[.int .i64 ya.S, .slice ya.ea ya.en ya.ec, .slice ya.ra ya.rn ya.rc, .int .i64 yb.S, .slice yb.ea yb.en yb.ec, .slice yb.ra yb.rn yb.rc] 38)) v2.heap.size MB yb) := HOB.out.later kk
  have HNB' : Hid (NFB (v12.alloc (.cells #[.int .i64 ya.S, .slice ya.ea ya.en ya.ec, .slice ya.ra ya.rn ya.rc, .int .i64 yb.S, .slice yb.ea yb.en yb.ec, .slice yb.ra yb.rn yb.rc] 38)) B yb) := HNB.out.later kk
  have HOC' : Hid (Own (v12.alloc (.cells #[.int .i64 ya.S, .slice ya.ea ya.en ya.ec, .slice ya.ra ya.rn ya.rc, .int .i64 yb.S, .slice yb.ea yb.en yb.ec, .slice yb.ra yb.rn yb.rc] 38)) v4.heap.size MA yc) := HOC.out.later kk
  have HNC' : Hid (NFB (v12.alloc (.cells #[.int .i64 ya.S, .slice ya.ea ya.en ya.ec, .slice ya.ra ya.rn ya.rc, .int .i64 yb.S, .slice yb.ea yb.en yb.ec, .slice yb.ra yb.rn yb.rc] 38)) C yc) := HNC.out.later kk
  have HNX' : Hid (NFB (v12.alloc (.cells #[.int .i64 ya.S, .slice ya.ea ya.en ya.ec, .slice ya.ra ya.rn ya.rc, .int .i64 yb.S, .slice yb.ea yb.en yb.ec, .slice yb.ra yb.rn yb.rc] 38)) X xa) := HNX.out.later kk
  have HNY' : Hid (NFB (v12.alloc (.cells #[.int .i64 ya.S, .slice ya.ea ya.en ya.ec, .slice ya.ra ya.rn ya.rc, .int .i64 yb.S, .slice yb.ea yb.en yb.ec, .slice yb.ra yb.rn yb.rc] 38)) Y xb) := HNY.out.later kk
  have HCX' : Hid (Cop (fun b => v6.heap.size ≤ b ∧ b < v7.heap.size) (v12.alloc (.cells #[.int .i64 ya.S, .slice ya.ea ya.en ya.ec, .slice ya.ra ya.rn ya.rc, .int .i64 yb.S, .slice yb.ea yb.en yb.ec, .slice yb.ra yb.rn yb.rc] 38)) MA xa) := HCX.out.later kk
  have HCY' : Hid (Cop (fun b => v6.heap.size ≤ b ∧ b < v7.heap.size) (v12.alloc (.cells #[.int .i64 ya.S, .slice ya.ea ya.en ya.ec, .slice ya.ra ya.rn ya.rc, .int .i64 yb.S, .slice yb.ea yb.en yb.ec, .slice yb.ra yb.rn yb.rc] 38)) MB xb) := HCY.out.later kk
  have HOD' : Hid (Own (v12.alloc (.cells #[.int .i64 ya.S, .slice ya.ea ya.en ya.ec, .slice ya.ra ya.rn ya.rc, .int .i64 yb.S, .slice yb.ea yb.en yb.ec, .slice yb.ra yb.rn yb.rc] 38)) v8.heap.size MD yd) := HOD.out.later kk
  have HND' : Hid (NFB (v12.alloc (.cells #[.int .i64 ya.S, .slice ya.ea ya.en ya.ec, .slice ya.ra ya.rn ya.rc, .int .i64 yb.S, .slice yb.ea yb.en yb.ec, .slice yb.ra yb.rn yb.rc] 38)) DD yd) := HND.out.later kk
  have HCW' : Hid (Cop (fun b => v10.heap.size ≤ b ∧ b < v11.heap.size) (v12.alloc (.cells #[.int .i64 ya.S, .slice ya.ea ya.en ya.ec, .slice ya.ra ya.rn ya.rc, .int .i64 yb.S, .slice yb.ea yb.en yb.ec, .slice yb.ra yb.rn yb.rc] 38)) MD xw) := HCW.out.later kk
  have HNW' : Hid (NFB (v12.alloc (.cells #[.int .i64 ya.S, .slice ya.ea ya.en ya.ec, .slice ya.ra ya.rn ya.rc, .int .i64 yb.S, .slice yb.ea yb.en yb.ec, .slice yb.ra yb.rn yb.rc] 38)) WW xw) := HNW.out.later kk
  clear HB HIN HNT HB0 HOA HNA HOB HNB HOC HNC HNX HNY HCX HCY HOD HND HCW HNW
  have HB := HB'
  have HIN := HIN'
  have HNT := HNT'
  have HB0 := HB0'
  have HOA := HOA'
  have HNA := HNA'
  have HOB := HOB'
  have HNB := HNB'
  have HOC := HOC'
  have HNC := HNC'
  have HNX := HNX'
  have HNY := HNY'
  have HCX := HCX'
  have HCY := HCY'
  have HOD := HOD'
  have HND := HND'
  have HCW := HCW'
  have HNW := HNW'
  clear HB' HIN' HNT' HB0' HOA' HNA' HOB' HNB' HOC' HNC' HNX' HNY' HCX' HCY' HOD' HND' HCW' HNW'
  have HC : Hid (Calls Try.prog 21 #[.slice (some ⟨v12.heap.size, 0, none⟩) 2 2] (v12.alloc (.cells #[.int .i64 ya.S, .slice ya.ea ya.en ya.ec, .slice ya.ra ya.rn ya.rc, .int .i64 yb.S, .slice yb.ea yb.en yb.ec, .slice yb.ra yb.rn yb.rc] 38)) _) := uni_any HMA.out.1 HMA.out.2 HMB.out.1 HMB.out.2 HOA.out.ma HOB.out.ma (heap_alloc_new v12 _)
  clear kk
  go_wp2_with fail
  refine HC.out.mono ?_
  rintro e v14 ⟨kc, yg, ek, rfl, hm⟩
  clear HC
  obtain ⟨v13, hq⟩ : ∃ q, v12.alloc (.cells #[.int .i64 ya.S, .slice ya.ea ya.en ya.ec, .slice ya.ra ya.rn ya.rc, .int .i64 yb.S, .slice yb.ea yb.en yb.ec, .slice yb.ra yb.rn yb.rc] 38) = q := ⟨_, rfl⟩
  rw [hq] at HSz kc hm HB HIN HNT HB0 HOA HNA HOB HNB HOC HNC HNX HNY HCX HCY HOD HND HCW HNW
  have HZv13 : Hid (v12.heap.size < v13.heap.size) := HSz
  have HOG : Hid (Own v14 v13.heap.size (unionOf [MA, MB]).1 yg) := hm
  have HRG : Hid (Rng v13.heap.size v14.heap.size yg) := hm.rng
  have HZv14 : Hid (v13.heap.size ≤ v14.heap.size) := kc.size
  clear hq hm HSz z0 z1 z2 z3 z4 z5
  have HB' : Hid (Below w.heap.size w v14) := below_step HB.out kc
  have HIN' : Hid (InAt v14 t x) := HIN.out.later kc
  have HNT' : Hid (NB v14 TT x) := HNT.out.later kc
  have HB0' : Hid (Below w5.heap.size w5 v14) := below_step HB0.out kc
  have HOA' : Hid (Own v14 w5.heap.size MA ya) := HOA.out.later kc
  have HNA' : Hid (NFB v14 A ya) := HNA.out.later kc
  have HOB' : Hid (Own v14 v2.heap.size MB yb) := HOB.out.later kc
  have HNB' : Hid (NFB v14 B yb) := HNB.out.later kc
  have HOC' : Hid (Own v14 v4.heap.size MA yc) := HOC.out.later kc
  have HNC' : Hid (NFB v14 C yc) := HNC.out.later kc
  have HNX' : Hid (NFB v14 X xa) := HNX.out.later kc
  have HNY' : Hid (NFB v14 Y xb) := HNY.out.later kc
  have HCX' : Hid (Cop (fun b => v6.heap.size ≤ b ∧ b < v7.heap.size) v14 MA xa) := HCX.out.later kc
  have HCY' : Hid (Cop (fun b => v6.heap.size ≤ b ∧ b < v7.heap.size) v14 MB xb) := HCY.out.later kc
  have HOD' : Hid (Own v14 v8.heap.size MD yd) := HOD.out.later kc
  have HND' : Hid (NFB v14 DD yd) := HND.out.later kc
  have HCW' : Hid (Cop (fun b => v10.heap.size ≤ b ∧ b < v11.heap.size) v14 MD xw) := HCW.out.later kc
  have HNW' : Hid (NFB v14 WW xw) := HNW.out.later kc
  clear HB HIN HNT HB0 HOA HNA HOB HNB HOC HNC HNX HNY HCX HCY HOD HND HCW HNW
  have HB := HB'
  have HIN := HIN'
  have HNT := HNT'
  have HB0 := HB0'
  have HOA := HOA'
  have HNA := HNA'
  have HOB := HOB'
  have HNB := HNB'
  have HOC := HOC'
  have HNC := HNC'
  have HNX := HNX'
  have HNY := HNY'
  have HCX := HCX'
  have HCY := HCY'
  have HOD := HOD'
  have HND := HND'
  have HCW := HCW'
  have HNW := HNW'
  clear HB' HIN' HNT' HB0' HOA' HNA' HOB' HNB' HOC' HNC' HNX' HNY' HCX' HCY' HOD' HND' HCW' HNW'
  clear kc
  rw [HED.out] at HOG
  have kk : Below v14.heap.size v14 (v14.alloc (.cells #[.int .i64 yg.S, .slice yg.ea yg.en yg.ec, .slice yg.ra yg.rn yg.rc] 38)) := (Below.refl _ _).alloc (Nat.le_refl _) _
  have HSz : Hid (v14.heap.size < (v14.alloc (.cells #[.int .i64 yg.S, .slice yg.ea yg.en yg.ec, .slice yg.ra yg.rn yg.rc] 38)).heap.size) := by show _ < _; simp
  have HB' : Hid (Below w.heap.size w (v14.alloc (.cells #[.int .i64 yg.S, .slice yg.ea yg.en yg.ec, .slice yg.ra yg.rn yg.rc] 38))) := below_step HB.out kk
  have HIN' : Hid (InAt (v14.alloc (.cells #[.int .i64 yg.S, .slice yg.ea yg.en yg.ec, .slice yg.ra yg.rn yg.rc] 38)) t x) := HIN.out.later kk
  have HNT' : Hid (NB (v14.alloc (.cells #[.int .i64 yg.S, .slice yg.ea yg.en yg.ec, .slice yg.ra yg.rn yg.rc] 38)) TT x) := HNT.out.later kk
  have HB0' : Hid (Below w5.heap.size w5 (v14.alloc (.cells #[.int .i64 yg.S, .slice yg.ea yg.en yg.ec, .slice yg.ra yg.rn yg.rc] 38))) := below_step HB0.out kk
  have HOA' : Hid (Own (v14.alloc (.cells #[.int .i64 yg.S, .slice yg.ea yg.en yg.ec, .slice yg.ra yg.rn yg.rc] 38)) w5.heap.size MA ya) := HOA.out.later kk
  have HNA' : Hid (NFB (v14.alloc (.cells #[.int .i64 yg.S, .slice yg.ea yg.en yg.ec, .slice yg.ra yg.rn yg.rc] 38)) A ya) := HNA.out.later kk
  have HOB' : Hid (Own (v14.alloc (.cells #[.int .i64 yg.S, .slice yg.ea yg.en yg.ec, .slice yg.ra yg.rn yg.rc] 38)) v2.heap.size MB yb) := HOB.out.later kk
  have HNB' : Hid (NFB (v14.alloc (.cells #[.int .i64 yg.S, .slice yg.ea yg.en yg.ec, .slice yg.ra yg.rn yg.rc] 38)) B yb) := HNB.out.later kk
  have HOC' : Hid (Own (v14.alloc (.cells #[.int .i64 yg.S, .slice yg.ea yg.en yg.ec, .slice yg.ra yg.rn yg.rc] 38)) v4.heap.size MA yc) := HOC.out.later kk
  have HNC' : Hid (NFB (v14.alloc (.cells #[.int .i64 yg.S, .slice yg.ea yg.en yg.ec, .slice yg.ra yg.rn yg.rc] 38)) C yc) := HNC.out.later kk
  have HNX' : Hid (NFB (v14.alloc (.cells #[.int .i64 yg.S, .slice yg.ea yg.en yg.ec, .slice yg.ra yg.rn yg.rc] 38)) X xa) := HNX.out.later kk
  have HNY' : Hid (NFB (v14.alloc (.cells #[.int .i64 yg.S, .slice yg.ea yg.en yg.ec, .slice yg.ra yg.rn yg.rc] 38)) Y xb) := HNY.out.later kk
  have HCX' : Hid (Cop (fun b => v6.heap.size ≤ b ∧ b < v7.heap.size) (v14.alloc (.cells #[.int .i64 yg.S, .slice yg.ea yg.en yg.ec, .slice yg.ra yg.rn yg.rc] 38)) MA xa) := HCX.out.later kk
  have HCY' : Hid (Cop (fun b => v6.heap.size ≤ b ∧ b < v7.heap.size) (v14.alloc (.cells #[.int .i64 yg.S, .slice yg.ea yg.en yg.ec, .slice yg.ra yg.rn yg.rc] 38)) MB xb) := HCY.out.later kk
  have HOD' : Hid (Own (v14.alloc (.cells #[.int .i64 yg.S, .slice yg.ea yg.en yg.ec, .slice yg.ra yg.rn yg.rc] 38)) v8.heap.size MD yd) := HOD.out.later kk
  have HND' : Hid (NFB (v14.alloc (.cells #[.int .i64 yg.S, .slice yg.ea yg.en yg.ec, .slice yg.ra yg.rn yg.rc] 38)) DD yd) := HND.out.later kk
  have HCW' : Hid (Cop (fun b => v10.heap.size ≤ b ∧ b < v11.heap.size) (v14.alloc (.cells #[.int .i64 yg.S, .slice yg.ea yg.en yg.ec, .slice yg.ra yg.rn yg.rc] 38)) MD xw) := HCW.out.later kk
  have HNW' : Hid (NFB (v14.alloc (.cells #[.int .i64 yg.S, .slice yg.ea yg.en yg.ec, .slice yg.ra yg.rn yg.rc] 38)) WW xw) := HNW.out.later kk
  have HOG' : Hid (Own (v14.alloc (.cells #[.int .i64 yg.S, .slice yg.ea yg.en yg.ec, .slice yg.ra yg.rn yg.rc] 38)) v13.heap.size MD yg) := HOG.out.later kk
  clear HB HIN HNT HB0 HOA HNA HOB HNB HOC HNC HNX HNY HCX HCY HOD HND HCW HNW HOG
  have HB := HB'
  have HIN := HIN'
  have HNT := HNT'
  have HB0 := HB0'
  have HOA := HOA'
  have HNA := HNA'
  have HOB := HOB'
  have HNB := HNB'
  have HOC := HOC'
  have HNC := HNC'
  have HNX := HNX'
  have HNY := HNY'
  have HCX := HCX'
  have HCY := HCY'
  have HOD := HOD'
  have HND := HND'
  have HCW := HCW'
  have HNW := HNW'
  have HOG := HOG'
  clear HB' HIN' HNT' HB0' HOA' HNA' HOB' HNB' HOC' HNC' HNX' HNY' HCX' HCY' HOD' HND' HCW' HNW' HOG'
  have HNG : Hid (NFB (v14.alloc (.cells #[.int .i64 yg.S, .slice yg.ea yg.en yg.ec, .slice yg.ra yg.rn yg.rc] 38)) v14.heap.size yg) := nfb_new v14 yg
  unfold Nf.val
  go_upto_region 14 with fail
  obtain ⟨v15, hq⟩ : ∃ q, v14.alloc (.cells #[.int .i64 yg.S, .slice yg.ea yg.en yg.ec, .slice yg.ra yg.rn yg.rc] 38) = q := ⟨_, rfl⟩
  obtain ⟨GG, hb⟩ : ∃ q, v14.heap.size = q := ⟨_, rfl⟩
  rw [hq] at HSz HB HIN HNT HB0 HOA HNA HOB HNB HOC HNC HNX HNY HCX HCY HOD HND HCW HNW HOG HNG ⊢
  rw [hb] at HNG ⊢
  have HZv15 : Hid (v14.heap.size < v15.heap.size) := HSz
  clear hq hb kk HSz
  obtain ⟨z0, z1, z2⟩ := HNX.out.cells
  obtain ⟨z3, z4, z5⟩ := HNC.out.cells
  have HC : Hid (Calls Try.prog 24 #[xa.val, yc.val] v15 _) := kept_any v15 HCX.out HOC.out.ma (by have := HMA.out; omega) (by have := HMA.out; omega)
  unfold Nf.val at HC
  go_wp2_with fail
  refine HC.out.mono ?_
  rintro e v16 ⟨rfl, kc⟩
  have HZv16 : Hid (v15.heap.size ≤ v16.heap.size) := kc.size
  clear HC z0 z1 z2 z3 z4 z5
  have HB' : Hid (Below w.heap.size w v16) := below_step HB.out kc
  have HIN' : Hid (InAt v16 t x) := HIN.out.later kc
  have HNT' : Hid (NB v16 TT x) := HNT.out.later kc
  have HB0' : Hid (Below w5.heap.size w5 v16) := below_step HB0.out kc
  have HOA' : Hid (Own v16 w5.heap.size MA ya) := HOA.out.later kc
  have HNA' : Hid (NFB v16 A ya) := HNA.out.later kc
  have HOB' : Hid (Own v16 v2.heap.size MB yb) := HOB.out.later kc
  have HNB' : Hid (NFB v16 B yb) := HNB.out.later kc
  have HOC' : Hid (Own v16 v4.heap.size MA yc) := HOC.out.later kc
  have HNC' : Hid (NFB v16 C yc) := HNC.out.later kc
  have HNX' : Hid (NFB v16 X xa) := HNX.out.later kc
  have HNY' : Hid (NFB v16 Y xb) := HNY.out.later kc
  have HCX' : Hid (Cop (fun b => v6.heap.size ≤ b ∧ b < v7.heap.size) v16 MA xa) := HCX.out.later kc
  have HCY' : Hid (Cop (fun b => v6.heap.size ≤ b ∧ b < v7.heap.size) v16 MB xb) := HCY.out.later kc
  have HOD' : Hid (Own v16 v8.heap.size MD yd) := HOD.out.later kc
  have HND' : Hid (NFB v16 DD yd) := HND.out.later kc
  have HCW' : Hid (Cop (fun b => v10.heap.size ≤ b ∧ b < v11.heap.size) v16 MD xw) := HCW.out.later kc
  have HNW' : Hid (NFB v16 WW xw) := HNW.out.later kc
  have HOG' : Hid (Own v16 v13.heap.size MD yg) := HOG.out.later kc
  have HNG' : Hid (NFB v16 GG yg) := HNG.out.later kc
  clear HB HIN HNT HB0 HOA HNA HOB HNB HOC HNC HNX HNY HCX HCY HOD HND HCW HNW HOG HNG
  have HB := HB'
  have HIN := HIN'
  have HNT := HNT'
  have HB0 := HB0'
  have HOA := HOA'
  have HNA := HNA'
  have HOB := HOB'
  have HNB := HNB'
  have HOC := HOC'
  have HNC := HNC'
  have HNX := HNX'
  have HNY := HNY'
  have HCX := HCX'
  have HCY := HCY'
  have HOD := HOD'
  have HND := HND'
  have HCW := HCW'
  have HNW := HNW'
  have HOG := HOG'
  have HNG := HNG'
  clear HB' HIN' HNT' HB0' HOA' HNA' HOB' HNB' HOC' HNC' HNX' HNY' HCX' HCY' HOD' HND' HCW' HNW' HOG' HNG'
  clear kc
  obtain ⟨z0, z1, z2⟩ := HNW.out.cells
  obtain ⟨z3, z4, z5⟩ := HNG.out.cells
  have HC : Hid (Calls Try.prog 24 #[xw.val, yg.val] v16 _) := kept_any v16 HCW.out HOG.out.ma (by have := HMD.out; omega) (by have := HMD.out; omega)
  unfold Nf.val at HC
  go_wp2_with fail
  refine HC.out.mono ?_
  rintro e v17 ⟨rfl, kc⟩
  have HZv17 : Hid (v16.heap.size ≤ v17.heap.size) := kc.size
  clear HC z0 z1 z2 z3 z4 z5
  have HB' : Hid (Below w.heap.size w v17) := below_step HB.out kc
  have HIN' : Hid (InAt v17 t x) := HIN.out.later kc
  have HNT' : Hid (NB v17 TT x) := HNT.out.later kc
  have HB0' : Hid (Below w5.heap.size w5 v17) := below_step HB0.out kc
  have HOA' : Hid (Own v17 w5.heap.size MA ya) := HOA.out.later kc
  have HNA' : Hid (NFB v17 A ya) := HNA.out.later kc
  have HOB' : Hid (Own v17 v2.heap.size MB yb) := HOB.out.later kc
  have HNB' : Hid (NFB v17 B yb) := HNB.out.later kc
  have HOC' : Hid (Own v17 v4.heap.size MA yc) := HOC.out.later kc
  have HNC' : Hid (NFB v17 C yc) := HNC.out.later kc
  have HNX' : Hid (NFB v17 X xa) := HNX.out.later kc
  have HNY' : Hid (NFB v17 Y xb) := HNY.out.later kc
  have HCX' : Hid (Cop (fun b => v6.heap.size ≤ b ∧ b < v7.heap.size) v17 MA xa) := HCX.out.later kc
  have HCY' : Hid (Cop (fun b => v6.heap.size ≤ b ∧ b < v7.heap.size) v17 MB xb) := HCY.out.later kc
  have HOD' : Hid (Own v17 v8.heap.size MD yd) := HOD.out.later kc
  have HND' : Hid (NFB v17 DD yd) := HND.out.later kc
  have HCW' : Hid (Cop (fun b => v10.heap.size ≤ b ∧ b < v11.heap.size) v17 MD xw) := HCW.out.later kc
  have HNW' : Hid (NFB v17 WW xw) := HNW.out.later kc
  have HOG' : Hid (Own v17 v13.heap.size MD yg) := HOG.out.later kc
  have HNG' : Hid (NFB v17 GG yg) := HNG.out.later kc
  clear HB HIN HNT HB0 HOA HNA HOB HNB HOC HNC HNX HNY HCX HCY HOD HND HCW HNW HOG HNG
  have HB := HB'
  have HIN := HIN'
  have HNT := HNT'
  have HB0 := HB0'
  have HOA := HOA'
  have HNA := HNA'
  have HOB := HOB'
  have HNB := HNB'
  have HOC := HOC'
  have HNC := HNC'
  have HNX := HNX'
  have HNY := HNY'
  have HCX := HCX'
  have HCY := HCY'
  have HOD := HOD'
  have HND := HND'
  have HCW := HCW'
  have HNW := HNW'
  have HOG := HOG'
  have HNG := HNG'
  clear HB' HIN' HNT' HB0' HOA' HNA' HOB' HNB' HOC' HNC' HNX' HNY' HCX' HCY' HOD' HND' HCW' HNW' HOG' HNG'
  clear kc
  obtain ⟨z0, z1, z2⟩ := HNA.out.cells
  obtain ⟨z3, z4, z5⟩ := HNB.out.cells
  obtain ⟨z6, z7, z8⟩ := HNC.out.cells
  obtain ⟨z9, z10, z11⟩ := HND.out.cells
  obtain ⟨z12, z13, z14⟩ := HNG.out.cells
  have kk : Below v17.heap.size v17 (v17.alloc (.cells #[.int .i64 ya.S, .slice ya.ea ya.en ya.ec, .slice ya.ra ya.rn ya.rc, .int .i64 yb.S, .slice yb.ea yb.en yb.ec, .slice yb.ra yb.rn yb.rc, .int .i64 yc.S, .slice yc.ea yc.en yc.ec, .slice yc.ra yc.rn yc.rc, .int .i64 yd.S, .slice yd.ea yd.en yd.ec, .slice yd.ra yd.rn yd.rc, .int .i64 yg.S, .slice yg.ea yg.en yg.ec, .slice yg.ra yg.rn yg.rc] 38)) := (Below.refl _ _).alloc (Nat.le_refl _) _
  have HSz : Hid (v17.heap.size < (v17.alloc (.cells #[.int .i64 ya.S, .slice ya.ea ya.en ya.ec, .slice ya.ra ya.rn ya.rc, .int .i64 yb.S, .slice yb.ea yb.en yb.ec, .slice yb.ra yb.rn yb.rc, .int .i64 yc.S, .slice yc.ea yc.en yc.ec, .slice yc.ra yc.rn yc.rc, .int .i64 yd.S, .slice yd.ea yd.en yd.ec, .slice yd.ra yd.rn yd.rc, .int .i64 yg.S, .slice yg.ea yg.en yg.ec, .slice yg.ra yg.rn yg.rc] 38)).heap.size) := by show _ < _; simp
  have HB' : Hid (Below w.heap.size w (v17.alloc (.cells #[.int .i64 ya.S, .slice ya.ea ya.en ya.ec, .slice ya.ra ya.rn ya.rc, .int .i64 yb.S, .slice yb.ea yb.en yb.ec, .slice yb.ra yb.rn yb.rc, .int .i64 yc.S, .slice yc.ea yc.en yc.ec, .slice yc.ra yc.rn yc.rc, .int .i64 yd.S, .slice yd.ea yd.en yd.ec, .slice yd.ra yd.rn yd.rc, .int .i64 yg.S, .slice yg.ea yg.en yg.ec, .slice yg.ra yg.rn yg.rc] 38))) := below_step HB.out kk
  have HIN' : Hid (InAt (v17.alloc (.cells #[.int .i64 ya.S, .slice ya.ea ya.en ya.ec, .slice ya.ra ya.rn ya.rc, .int .i64 yb.S, .slice yb.ea yb.en yb.ec, .slice yb.ra yb.rn yb.rc, .int .i64 yc.S, .slice yc.ea yc.en yc.ec, .slice yc.ra yc.rn yc.rc, .int .i64 yd.S, .slice yd.ea yd.en yd.ec, .slice yd.ra yd.rn yd.rc, .int .i64 yg.S, .slice yg.ea yg.en yg.ec, .slice yg.ra yg.rn yg.rc] 38)) t x) := HIN.out.later kk
  have HNT' : Hid (NB (v17.alloc (.cells #[.int .i64 ya.S, .slice ya.ea ya.en ya.ec, .slice ya.ra ya.rn ya.rc, .int .i64 yb.S, .slice yb.ea yb.en yb.ec, .slice yb.ra yb.rn yb.rc, .int .i64 yc.S, .slice yc.ea yc.en yc.ec, .slice yc.ra yc.rn yc.rc, .int .i64 yd.S, .slice yd.ea yd.en yd.ec, .slice yd.ra yd.rn yd.rc, .int .i64 yg.S, .slice yg.ea yg.en yg.ec, .slice yg.ra yg.rn yg.rc] 38)) TT x) := HNT.out.later kk
  have HB0' : Hid (Below w5.heap.size w5 (v17.alloc (.cells #[.int .i64 ya.S, .slice ya.ea ya.en ya.ec, .slice ya.ra ya.rn ya.rc, .int .i64 yb.S, .slice yb.ea yb.en yb.ec, .slice yb.ra yb.rn yb.rc, .int .i64 yc.S, .slice yc.ea yc.en yc.ec, .slice yc.ra yc.rn yc.rc, .int .i64 yd.S, .slice yd.ea yd.en yd.ec, .slice yd.ra yd.rn yd.rc, .int .i64 yg.S, .slice yg.ea yg.en yg.ec, .slice yg.ra yg.rn yg.rc] 38))) := below_step HB0.out kk
  have HOA' : Hid (Own (v17.alloc (.cells #[.int .i64 ya.S, .slice ya.ea ya.en ya.ec, .slice ya.ra ya.rn ya.rc, .int .i64 yb.S, .slice yb.ea yb.en yb.ec, .slice yb.ra yb.rn yb.rc, .int .i64 yc.S, .slice yc.ea yc.en yc.ec, .slice yc.ra yc.rn yc.rc, .int .i64 yd.S, .slice yd.ea yd.en yd.ec, .slice yd.ra yd.rn yd.rc, .int .i64 yg.S, .slice yg.ea yg.en yg.ec, .slice yg.ra yg.rn yg.rc] 38)) w5.heap.size MA ya) := HOA.out.later kk
  have HNA' : Hid (NFB (v17.alloc (.cells #[.int .i64 ya.S, .slice ya.ea ya.en ya.ec, .slice ya.ra ya.rn ya.rc, .int .i64 yb.S, .slice yb.ea yb.en yb.ec, .slice yb.ra yb.rn yb.rc, .int .i64 yc.S, .slice yc.ea yc.en yc.ec, .slice yc.ra yc.rn yc.rc, .int .i64 yd.S, .slice yd.ea yd.en yd.ec, .slice yd.ra yd.rn yd.rc, .int .i64 yg.S, .slice yg.ea yg.en yg.ec, .slice yg.ra yg.rn yg.rc] 38)) A ya) := HNA.out.later kk
  have HOB' : Hid (Own (v17.alloc (.cells #[.int .i64 ya.S, .slice ya.ea ya.en ya.ec, .slice ya.ra ya.rn ya.rc, .int .i64 yb.S, .slice yb.ea yb.en yb.ec, .slice yb.ra yb.rn yb.rc, .int .i64 yc.S, .slice yc.ea yc.en yc.ec, .slice yc.ra yc.rn yc.rc, .int .i64 yd.S, .slice yd.ea yd.en yd.ec, .slice yd.ra yd.rn yd.rc, .int .i64 yg.S, .slice yg.ea yg.en yg.ec, .slice yg.ra yg.rn yg.rc] 38)) v2.heap.size MB yb) := HOB.out.later kk
  have HNB' : Hid (NFB (v17.alloc (.cells #[.int .i64 ya.S, .slice ya.ea ya.en ya.ec, .slice ya.ra ya.rn ya.rc, .int .i64 yb.S, .slice yb.ea yb.en yb.ec, .slice yb.ra yb.rn yb.rc, .int .i64 yc.S, .slice yc.ea yc.en yc.ec, .slice yc.ra yc.rn yc.rc, .int .i64 yd.S, .slice yd.ea yd.en yd.ec, .slice yd.ra yd.rn yd.rc, .int .i64 yg.S, .slice yg.ea yg.en yg.ec, .slice yg.ra yg.rn yg.rc] 38)) B yb) := HNB.out.later kk
  have HOC' : Hid (Own (v17.alloc (.cells #[.int .i64 ya.S, .slice ya.ea ya.en ya.ec, .slice ya.ra ya.rn ya.rc, .int .i64 yb.S, .slice yb.ea yb.en yb.ec, .slice yb.ra yb.rn yb.rc, .int .i64 yc.S, .slice yc.ea yc.en yc.ec, .slice yc.ra yc.rn yc.rc, .int .i64 yd.S, .slice yd.ea yd.en yd.ec, .slice yd.ra yd.rn yd.rc, .int .i64 yg.S, .slice yg.ea yg.en yg.ec, .slice yg.ra yg.rn yg.rc] 38)) v4.heap.size MA yc) := HOC.out.later kk
  have HNC' : Hid (NFB (v17.alloc (.cells #[.int .i64 ya.S, .slice ya.ea ya.en ya.ec, .slice ya.ra ya.rn ya.rc, .int .i64 yb.S, .slice yb.ea yb.en yb.ec, .slice yb.ra yb.rn yb.rc, .int .i64 yc.S, .slice yc.ea yc.en yc.ec, .slice yc.ra yc.rn yc.rc, .int .i64 yd.S, .slice yd.ea yd.en yd.ec, .slice yd.ra yd.rn yd.rc, .int .i64 yg.S, .slice yg.ea yg.en yg.ec, .slice yg.ra yg.rn yg.rc] 38)) C yc) := HNC.out.later kk
  have HNX' : Hid (NFB (v17.alloc (.cells #[.int .i64 ya.S, .slice ya.ea ya.en ya.ec, .slice ya.ra ya.rn ya.rc, .int .i64 yb.S, .slice yb.ea yb.en yb.ec, .slice yb.ra yb.rn yb.rc, .int .i64 yc.S, .slice yc.ea yc.en yc.ec, .slice yc.ra yc.rn yc.rc, .int .i64 yd.S, .slice yd.ea yd.en yd.ec, .slice yd.ra yd.rn yd.rc, .int .i64 yg.S, .slice yg.ea yg.en yg.ec, .slice yg.ra yg.rn yg.rc] 38)) X xa) := HNX.out.later kk
  have HNY' : Hid (NFB (v17.alloc (.cells #[.int .i64 ya.S, .slice ya.ea ya.en ya.ec, .slice ya.ra ya.rn ya.rc, .int .i64 yb.S, .slice yb.ea yb.en yb.ec, .slice yb.ra yb.rn yb.rc, .int .i64 yc.S, .slice yc.ea yc.en yc.ec, .slice yc.ra yc.rn yc.rc, .int .i64 yd.S, .slice yd.ea yd.en yd.ec, .slice yd.ra yd.rn yd.rc, .int .i64 yg.S, .slice yg.ea yg.en yg.ec, .slice yg.ra yg.rn yg.rc] 38)) Y xb) := HNY.out.later kk
  have HCX' : Hid (Cop (fun b => v6.heap.size ≤ b ∧ b < v7.heap.size) (v17.alloc (.cells #[.int .i64 ya.S, .slice ya.ea ya.en ya.ec, .slice ya.ra ya.rn ya.rc, .int .i64 yb.S, .slice yb.ea yb.en yb.ec, .slice yb.ra yb.rn yb.rc, .int .i64 yc.S, .slice yc.ea yc.en yc.ec, .slice yc.ra yc.rn yc.rc, .int .i64 yd.S, .slice yd.ea yd.en yd.ec, .slice yd.ra yd.rn yd.rc, .int .i64 yg.S, .slice yg.ea yg.en yg.ec, .slice yg.ra yg.rn yg.rc] 38)) MA xa) := HCX.out.later kk
  have HCY' : Hid (Cop (fun b => v6.heap.size ≤ b ∧ b < v7.heap.size) (v17.alloc (.cells #[.int .i64 ya.S, .slice ya.ea ya.en ya.ec, .slice ya.ra ya.rn ya.rc, .int .i64 yb.S, .slice yb.ea yb.en yb.ec, .slice yb.ra yb.rn yb.rc, .int .i64 yc.S, .slice yc.ea yc.en yc.ec, .slice yc.ra yc.rn yc.rc, .int .i64 yd.S, .slice yd.ea yd.en yd.ec, .slice yd.ra yd.rn yd.rc, .int .i64 yg.S, .slice yg.ea yg.en yg.ec, .slice yg.ra yg.rn yg.rc] 38)) MB xb) := HCY.out.later kk
  have HOD' : Hid (Own (v17.alloc (.cells #[.int .i64 ya.S, .slice ya.ea ya.en ya.ec, .slice ya.ra ya.rn ya.rc, .int .i64 yb.S, .slice yb.ea yb.en yb.ec, .slice yb.ra yb.rn yb.rc, .int .i64 yc.S, .slice yc.ea yc.en yc.ec, .slice yc.ra yc.rn yc.rc, .int .i64 yd.S, .slice yd.ea yd.en yd.ec, .slice yd.ra yd.rn yd.rc, .int .i64 yg.S, .slice yg.ea yg.en yg.ec, .slice yg.ra yg.rn yg.rc] 38)) v8.heap.size MD yd) := HOD.out.later kk
  have HND' : Hid (NFB (v17.alloc (.cells #[.int .i64 ya.S, .slice ya.ea ya.en ya.ec, .slice ya.ra ya.rn ya.rc, .int .i64 yb.S, .slice yb.ea yb.en yb.ec, .slice yb.ra yb.rn yb.rc, .int .i64 yc.S, .slice yc.ea yc.en yc.ec, .slice yc.ra yc.rn yc.rc, .int .i64 yd.S, .slice yd.ea yd.en yd.ec, .slice yd.ra yd.rn yd.rc, .int .i64 yg.S, .slice yg.ea yg.en yg.ec, .slice yg.ra yg.rn yg.rc] 38)) DD yd) := HND.out.later kk
  have HCW' : Hid (Cop (fun b => v10.heap.size ≤ b ∧ b < v11.heap.size) (v17.alloc (.cells #[.int .i64 ya.S, .slice ya.ea ya.en ya.ec, .slice ya.ra ya.rn ya.rc, .int .i64 yb.S, .slice yb.ea yb.en yb.ec, .slice yb.ra yb.rn yb.rc, .int .i64 yc.S, .slice yc.ea yc.en yc.ec, .slice yc.ra yc.rn yc.rc, .int .i64 yd.S, .slice yd.ea yd.en yd.ec, .slice yd.ra yd.rn yd.rc, .int .i64 yg.S, .slice yg.ea yg.en yg.ec, .slice yg.ra yg.rn yg.rc] 38)) MD xw) := HCW.out.later kk
  have HNW' : Hid (NFB (v17.alloc (.cells #[.int .i64 ya.S, .slice ya.ea ya.en ya.ec, .slice ya.ra ya.rn ya.rc, .int .i64 yb.S, .slice yb.ea yb.en yb.ec, .slice yb.ra yb.rn yb.rc, .int .i64 yc.S, .slice yc.ea yc.en yc.ec, .slice yc.ra yc.rn yc.rc, .int .i64 yd.S, .slice yd.ea yd.en yd.ec, .slice yd.ra yd.rn yd.rc, .int .i64 yg.S, .slice yg.ea yg.en yg.ec, .slice yg.ra yg.rn yg.rc] 38)) WW xw) := HNW.out.later kk
  have HOG' : Hid (Own (v17.alloc (.cells #[.int .i64 ya.S, .slice ya.ea ya.en ya.ec, .slice ya.ra ya.rn ya.rc, .int .i64 yb.S, .slice yb.ea yb.en yb.ec, .slice yb.ra yb.rn yb.rc, .int .i64 yc.S, .slice yc.ea yc.en yc.ec, .slice yc.ra yc.rn yc.rc, .int .i64 yd.S, .slice yd.ea yd.en yd.ec, .slice yd.ra yd.rn yd.rc, .int .i64 yg.S, .slice yg.ea yg.en yg.ec, .slice yg.ra yg.rn yg.rc] 38)) v13.heap.size MD yg) := HOG.out.later kk
  have HNG' : Hid (NFB (v17.alloc (.cells #[.int .i64 ya.S, .slice ya.ea ya.en ya.ec, .slice ya.ra ya.rn ya.rc, .int .i64 yb.S, .slice yb.ea yb.en yb.ec, .slice yb.ra yb.rn yb.rc, .int .i64 yc.S, .slice yc.ea yc.en yc.ec, .slice yc.ra yc.rn yc.rc, .int .i64 yd.S, .slice yd.ea yd.en yd.ec, .slice yd.ra yd.rn yd.rc, .int .i64 yg.S, .slice yg.ea yg.en yg.ec, .slice yg.ra yg.rn yg.rc] 38)) GG yg) := HNG.out.later kk
  clear HB HIN HNT HB0 HOA HNA HOB HNB HOC HNC HNX HNY HCX HCY HOD HND HCW HNW HOG HNG
  have HB := HB'
  have HIN := HIN'
  have HNT := HNT'
  have HB0 := HB0'
  have HOA := HOA'
  have HNA := HNA'
  have HOB := HOB'
  have HNB := HNB'
  have HOC := HOC'
  have HNC := HNC'
  have HNX := HNX'
  have HNY := HNY'
  have HCX := HCX'
  have HCY := HCY'
  have HOD := HOD'
  have HND := HND'
  have HCW := HCW'
  have HNW := HNW'
  have HOG := HOG'
  have HNG := HNG'
  clear HB' HIN' HNT' HB0' HOA' HNA' HOB' HNB' HOC' HNC' HNX' HNY' HCX' HCY' HOD' HND' HCW' HNW' HOG' HNG'
  have HLA : Hid ((v17.alloc (.cells #[.int .i64 ya.S, .slice ya.ea ya.en ya.ec, .slice ya.ra ya.rn ya.rc, .int .i64 yb.S, .slice yb.ea yb.en yb.ec, .slice yb.ra yb.rn yb.rc, .int .i64 yc.S, .slice yc.ea yc.en yc.ec, .slice yc.ra yc.rn yc.rc, .int .i64 yd.S, .slice yd.ea yd.en yd.ec, .slice yd.ra yd.rn yd.rc, .int .i64 yg.S, .slice yg.ea yg.en yg.ec, .slice yg.ra yg.rn yg.rc] 38)).heap[v17.heap.size]? = some (.cells (flatM [ya, yb, yc, yd, yg]).toArray 38 (0, 0))) := heap_alloc_new v17 _
  go_upto_region 17 with fail
  obtain ⟨v18, hq⟩ : ∃ q, v17.alloc (.cells #[.int .i64 ya.S, .slice ya.ea ya.en ya.ec, .slice ya.ra ya.rn ya.rc, .int .i64 yb.S, .slice yb.ea yb.en yb.ec, .slice yb.ra yb.rn yb.rc, .int .i64 yc.S, .slice yc.ea yc.en yc.ec, .slice yc.ra yc.rn yc.rc, .int .i64 yd.S, .slice yd.ea yd.en yd.ec, .slice yd.ra yd.rn yd.rc, .int .i64 yg.S, .slice yg.ea yg.en yg.ec, .slice yg.ra yg.rn yg.rc] 38) = q := ⟨_, rfl⟩
  obtain ⟨LB, hb⟩ : ∃ q, v17.heap.size = q := ⟨_, rfl⟩
  rw [hq] at HSz HB HIN HNT HB0 HOA HNA HOB HNB HOC HNC HNX HNY HCX HCY HOD HND HCW HNW HOG HNG HLA ⊢
  rw [hb] at HLA ⊢
  have HZv18 : Hid (v17.heap.size < v18.heap.size) := HSz
  clear hq hb kk HSz
  clear z0 z1 z2 z3 z4 z5 z6 z7 z8 z9 z10 z11 z12 z13 z14
  have HST : Hid (∃ K : Kc, K.w0 = w5 ∧ K.A = A ∧ K.B = B ∧ K.X = X ∧ K.Y = Y ∧ K.W = WW ∧ K.LB = LB ∧ K.a = ya ∧ K.b = yb ∧ K.x = xa ∧ K.y = xb ∧ K.v = xw ∧ K.xs = [ya, yb, yc, yd, yg] ∧ K.mA = MA ∧ K.mB = MB ∧ K.mD = MD ∧ Sf K v18 (F0 K.xs eV) (F0 K.xs uV)) := by
    have hRA := HRA.out
    have hRB := HRB.out
    have hRC := HRC.out
    have hRD := HRD.out
    have hRG := HRG.out
    have z1 := HZv1.out
    have z2 := HZv2.out
    have z3 := HZv3.out
    have z4 := HZv4.out
    have z5 := HZv5.out
    have z6 := HZv6.out
    have z7 := HZv7.out
    have z8 := HZv8.out
    have z9 := HZv9.out
    have z10 := HZv10.out
    have z11 := HZv11.out
    have z12 := HZv12.out
    have z13 := HZv13.out
    have z14 := HZv14.out
    have z15 := HZv15.out
    have z16 := HZv16.out
    have z17 := HZv17.out
    have z18 := HZv18.out
    refine ⟨⟨w5, v18.heap.size, A, B, X, Y, WW, LB, ya, yb, xa, xb, xw, [ya, yb, yc, yd, yg], MA, MB, MD, fun k => (w5.heap.size ≤ k ∧ k < v6.heap.size) ∨ (v8.heap.size ≤ k ∧ k < v10.heap.size) ∨ v12.heap.size ≤ k, fun k hk => by omega, fun k hk => by omega⟩, rfl, rfl, rfl, rfl, rfl, rfl, rfl, rfl, rfl, rfl, rfl, rfl, rfl, rfl, rfl, rfl, ?_⟩
    refine sf_begin ⟨HB0.out, Nat.le_refl _, HNA.out, HNB.out, HNX.out, HNY.out, HNW.out, HCX.out.keep (fun b hb _ => ?_) (fun _ _ _ => rfl), HCY.out.keep (fun b hb _ => ?_) (fun _ _ _ => rfl), HCW.out.keep (fun b hb _ => ?_) (fun _ _ _ => rfl), HLA.out⟩ (R5 w5.heap.size v1.heap.size v2.heap.size v3.heap.size v4.heap.size v5.heap.size v8.heap.size v9.heap.size v13.heap.size v14.heap.size) ⟨fun j j' h1 h2 => ?_, fun j y h => ?_⟩ (fun j y h => ?_) (fun j y b h => ?_)
    · show ¬ _; omega
    · show ¬ _; omega
    · show ¬ _; omega
    · exact r5_mono (by omega) (by omega) (by omega) (by omega) (by omega) (by omega) (by omega) j j' h1 h2
    · exact five (P := fun j y => Rng ((R5 w5.heap.size v1.heap.size v2.heap.size v3.heap.size v4.heap.size v5.heap.size v8.heap.size v9.heap.size v13.heap.size v14.heap.size) j).1 ((R5 w5.heap.size v1.heap.size v2.heap.size v3.heap.size v4.heap.size v5.heap.size v8.heap.size v9.heap.size v13.heap.size v14.heap.size) j).2 y) hRA hRB hRC hRD hRG h
    · exact five (P := fun _ y => ∃ base M, Own v18 base M y) ⟨_, _, HOA.out⟩ ⟨_, _, HOB.out⟩ ⟨_, _, HOC.out⟩ ⟨_, _, HOD.out⟩ ⟨_, _, HOG.out⟩ h
    · refine five (P := fun _ y => (eV y).ownBlock = some b ∨ (uV y).ownBlock = some b → _) (fun e => ?_) (fun e => ?_) (fun e => ?_) (fun e => ?_) (fun e => ?_) h
      · have := hRA b e; show _ ∨ _; omega
      · have := hRB b e; show _ ∨ _; omega
      · have := hRC b e; show _ ∨ _; omega
      · have := hRD b e; show _ ∨ _; omega
      · have := hRG b e; show _ ∨ _; omega
  have HLE : Hid (∀ (j : Nat) (y : Nf), [ya, yb, yc, yd, yg][j]? = some y → y.en ≤ 10000 ∧ y.rn ≤ 10000) := fun j y h => by
    have h1 := HMA.out
    have h2 := HMB.out
    have h3 := HMD.out
    have eA := HOA.out.ma
    have eB := HOB.out.ma
    have eC := HOC.out.ma
    have eD := HOD.out.ma
    have eG := HOG.out.ma
    exact five (P := fun _ y => y.en ≤ 10000 ∧ y.rn ≤ 10000) (by rw [eA.n, eA.r]; omega) (by rw [eB.n, eB.r]; omega) (by rw [eC.n, eC.r]; omega) (by rw [eD.n, eD.r]; omega) (by rw [eG.n, eG.r]; omega) h
  have HLN : Hid (ya.en = MA.es.length ∧ ya.rn = MA.rs.length ∧ ya.S = MA.S ∧ yb.en = MB.es.length ∧ yb.rn = MB.rs.length ∧ yb.S = MB.S) := ⟨HOA.out.ma.n, HOA.out.ma.r, HOA.out.ma.s, HOB.out.ma.n, HOB.out.ma.r, HOB.out.ma.s⟩
  obtain ⟨K, eK0, eKA, eKB, eKX, eKY, eKW, eKL, eka, ekb, ekx, eky, ekv, ekxs, ekA, ekB, ekD, hSf⟩ := HST.out
  have HK : Hid (K.w0 = w5 ∧ K.A = A ∧ K.B = B ∧ K.X = X ∧ K.Y = Y ∧ K.W = WW ∧ K.LB = LB ∧ K.a = ya ∧ K.b = yb ∧ K.x = xa ∧ K.y = xb ∧ K.v = xw ∧ K.xs = [ya, yb, yc, yd, yg] ∧ K.mA = MA ∧ K.mB = MB ∧ K.mD = MD) := ⟨eK0, eKA, eKB, eKX, eKY, eKW, eKL, eka, ekb, ekx, eky, ekv, ekxs, ekA, ekB, ekD⟩
  obtain ⟨xs, hxs⟩ : ∃ xs, [ya, yb, yc, yd, yg] = xs := ⟨_, rfl⟩
  have HXS : Hid ([ya, yb, yc, yd, yg] = xs) := hxs
  have HX5 : Hid (xs.length = 5) := by rw [← hxs]; rfl
  rw [ekxs, hxs] at hSf
  rw [hxs] at HLE
  have HSf : Hid (Sf K v18 (F0 xs eV) (F0 xs uV)) := hSf
  have HLAT : Hid (∀ u, Stay K u → LAt u (some ⟨LB, 0, none⟩) xs) := fun u h => by have g := h.lat; rw [eKL, ekxs, hxs] at g; exact g
  clear HST eK0 eKA eKB eKX eKY eKW eKL eka ekb ekx eky ekv ekxs ekA ekB ekD hSf hxs
  have HIN5 := HIN0
  have HNT5 := HNT0
  have HB5 := HBW
  clear HIN0 HNT0 HBW
  clear HB HIN HNT HB0 HOA HNA HOB HNB HOC HNC HNX HNY HCX HCY HOD HND HCW HNW HOG HNG
  clear HLA HRA HRB HRC HRD HRG HZv1 HZv2 HZv3 HZv4 HZv5 HZv6 HZv7 HZv8 HZv9 HZv10 HZv11 HZv12 HZv13 HZv14 HZv15 HZv16 HZv17 HZv18
  go_wp2_with fail
  go_loopw [122] (fun i u => ∃ (k : Nat) (F G : Nat → Nat → Value → Prop), i = .int .i64 (k : Nat) ∧ k ≤ 5 ∧ Hid (Sf K u F G) ∧ Hid (∀ (j : Nat) (y : Nf), xs[j]? = some y → F j (if j < k then y.en else 0) (eV y)) ∧ Hid (∀ (j : Nat) (y : Nf), xs[j]? = some y → G j (if j < k then y.rn else 0) (uV y))) (fun i _ => 5 - (intOf i).toNat)
  case atStart => exact ⟨0, _, _, rfl, by omega, HSf, fun j y h => (by rw [if_neg (Nat.not_lt_zero j)]; exact ⟨rfl, y, h, rfl⟩), fun j y h => (by rw [if_neg (Nat.not_lt_zero j)]; exact ⟨rfl, y, h, rfl⟩)⟩
  case round =>
    clear HSf
    obtain ⟨k, F, G, rfl, hk, HSf, HFE, HFU⟩ := hrel
    by_cases hk5 : k < 5
    · have hk5' : (k : Int) < 5 := by omega
      obtain ⟨y, hy⟩ : ∃ y, xs[k]? = some y := ⟨_, List.getElem?_eq_getElem (by rw [HX5.out]; exact hk5)⟩
      obtain ⟨bq, oq, eq, c0, c1, c2⟩ := (HLAT.out wr HSf.out.st).nth hy
      cases eq
      rw [Nat.zero_add] at c0 c1 c2
      have HYL := HLE.out k y hy
      have HFk : Hid (F k 0 (eV y)) := by have h := HFE.out k y hy; rw [if_neg (Nat.lt_irrefl _)] at h; exact h
      have HGk : Hid (G k 0 (uV y)) := by have h := HFU.out k y hy; rw [if_neg (Nat.lt_irrefl _)] at h; exact h
      have HHY : Hid (xs[k]? = some y) := hy
      clear hy
      obtain ⟨S, ea, en, ec, ra, rn, rc⟩ := y
      simp only at c0 c1 c2 HYL
      have HFk : Hid (F k 0 (.slice ea en ec)) := HFk
      have HGk : Hid (G k 0 (.slice ra rn rc)) := HGk
      have kk : Below wr.heap.size wr (wr.alloc (.cells #[.int .i64 S, .slice ea en ec, .slice ra rn rc] 38)) := (Below.refl _ _).alloc (Nat.le_refl _) _
      have HSf1 : Hid (Sf K (wr.alloc (.cells #[.int .i64 S, .slice ea en ec, .slice ra rn rc] 38)) F G) := HSf.out.later kk
      have HNM : Hid (NFB (wr.alloc (.cells #[.int .i64 S, .slice ea en ec, .slice ra rn rc] 38)) wr.heap.size ⟨S, ea, en, ec, ra, rn, rc⟩) := nfb_new wr ⟨S, ea, en, ec, ra, rn, rc⟩
      clear HSf kk
      go_upto_region 20 with fail
      obtain ⟨u1, hq⟩ : ∃ q, wr.alloc (.cells #[.int .i64 S, .slice ea en ec, .slice ra rn rc] 38) = q := ⟨_, rfl⟩
      obtain ⟨P, hP⟩ : ∃ q, wr.heap.size = q := ⟨_, rfl⟩
      rw [hq] at HSf1 HNM ⊢
      rw [hP] at HNM ⊢
      clear hq hP c0 c1 c2
      obtain ⟨c, hc⟩ : ∃ c, 50 + k = c := ⟨_, rfl⟩
      have h50 : (50 : Int) + (k : Int) = (c : Nat) := by omega
      have HC50 : Hid (50 + k = c) := hc
      have hcm : (c : Int) % 4294967296 = (c : Nat) := by omega
      clear hc
      obtain ⟨z0, z1, z2⟩ := HNM.out.cells
      simp only at z0 z1 z2
      go_wp2_with fail
      clear z0 z1 z2
      go_loopw [130] (fun i u => ∃ (m : Nat) (F' : Nat → Nat → Value → Prop), i = .int .i64 (m : Nat) ∧ m ≤ en ∧ Hid (Sf K u F' G) ∧ Hid (NFB u P ⟨S, ea, en, ec, ra, rn, rc⟩) ∧ Hid (F' k m (.slice ea en ec)) ∧ Hid (∀ j n W, F j n W → F' j n W)) (fun i _ => en - (intOf i).toNat)
      case atStart => exact ⟨0, F, rfl, Nat.zero_le _, HSf1, HNM, HFk, fun _ _ _ h => h⟩
      case round =>
        clear HSf1 HNM HFk
        obtain ⟨m, F', rfl, hm, HSf, HNM, HFm, HSub⟩ := hrel
        obtain ⟨z0, z1, z2⟩ := HNM.out.cells
        simp only at z0 z1 z2
        by_cases hmn : m < en
        · have hmn' : (m : Int) < (en : Int) := by omega
          obtain ⟨g, cur, hea, hgc, _, _⟩ := (HSf.out.fe.al _ _ _ HFm.out).lies (by omega)
          subst hea
          have hA := HSf.out.fe.al _ _ _ HFm.out
          have HT : Hid (TyB wr 57 g) := ⟨_, _, hgc⟩
          obtain ⟨⟨d0, p0⟩, f0⟩ := hA.room hmn (q := 0) (by decide)
          obtain ⟨⟨d1, p1⟩, f1⟩ := hA.room hmn (q := 1) (by decide)
          obtain ⟨⟨d2, p2⟩, f2⟩ := hA.room hmn (q := 2) (by decide)
          obtain ⟨⟨d3, p3⟩, f3⟩ := hA.room hmn (q := 3) (by decide)
          obtain ⟨⟨d4, p4⟩, f4⟩ := hA.room hmn (q := 4) (by decide)
          obtain ⟨⟨d5, p5⟩, f5⟩ := hA.room hmn (q := 5) (by decide)
          obtain ⟨⟨d6, p6⟩, f6⟩ := hA.room hmn (q := 6) (by decide)
          rw [Nat.add_zero] at p0 f0
          have HP : Hid (Sf K (put7 wr g (m * 7) c) (Fadd F' k (m + 1) (.slice (some ⟨g, 0, none⟩) en ec)) G) := by
            have h := HSf.out.putE HFm.out hmn
            rw [put7_eq _ _ _ _ _ HC50.out] at h
            exact h
          have HN3 : Hid (NFB (put7 wr g (m * 7) c) P ⟨S, some ⟨g, 0, none⟩, en, ec, ra, rn, rc⟩) := by
            have h := HNM.out.cells_other (o := m * 7) (vs := egs k) HT.out (by decide)
            rw [put7_eq _ _ _ _ _ HC50.out] at h
            exact h
          have HS3 : Hid (∀ j n W, F j n W → Fadd F' k (m + 1) (.slice (some ⟨g, 0, none⟩) en ec) j n W) := fun j n W h => Or.inl (HSub.out j n W h)
          clear HSf HNM HFm hA hgc HT
          unfold put7 at HP HN3
          go_wp2
          go_roundw
          case rel => exact ⟨m + 1, _, by go_num, by omega, HP, HN3, Or.inr ⟨rfl, rfl, rfl⟩, HS3⟩
          case measure => simp [intOf]; omega
        · have hmn' : ¬ (m : Int) < (en : Int) := by omega
          obtain rfl : m = en := by omega
          have HFE2 : Hid (∀ (j : Nat) (y : Nf), xs[j]? = some y → F' j (if j < k + 1 then y.en else 0) (eV y)) := fg_step (V := eV) (f := Nf.en) HFE.out HSub.out HHY.out HFm.out
          clear HFm HSub
          go_wp2_with fail
          clear z0 z1 z2
          go_loopw [144] (fun i u => ∃ (n : Nat) (G' : Nat → Nat → Value → Prop), i = .int .i64 (n : Nat) ∧ n ≤ rn ∧ Hid (Sf K u F' G') ∧ Hid (NFB u P ⟨S, ea, m, ec, ra, rn, rc⟩) ∧ Hid (G' k n (.slice ra rn rc)) ∧ Hid (∀ j n W, G j n W → G' j n W)) (fun i _ => rn - (intOf i).toNat)
          case atStart => exact ⟨0, G, rfl, Nat.zero_le _, HSf, HNM, HGk, fun _ _ _ h => h⟩
          case round =>
            clear HSf HNM HGk
            obtain ⟨n, G', rfl, hn, HSf, HNM, HGm, HSub⟩ := hrel
            obtain ⟨z0, z1, z2⟩ := HNM.out.cells
            simp only at z0 z1 z2
            by_cases hnn : n < rn
            · have hnn' : (n : Int) < (rn : Int) := by omega
              obtain ⟨g, cur, hea, hgc, _, _⟩ := (HSf.out.fu.al _ _ _ HGm.out).lies (by omega)
              subst hea
              have hA := HSf.out.fu.al _ _ _ HGm.out
              have HT : Hid (TyB wr 44 g) := ⟨_, _, hgc⟩
              obtain ⟨⟨d0, p0⟩, f0⟩ := hA.room hnn (q := 0) (by decide)
              rw [Nat.add_zero, Nat.mul_one] at p0 f0
              have HP : Hid (Sf K (wr.setCell ⟨g, n, none⟩ (.int .u32 (c : Nat))) F' (Fadd G' k (n + 1) (.slice (some ⟨g, 0, none⟩) rn rc))) := by
                have h := HSf.out.putU HGm.out hnn
                rw [put1_eq _ _ _ _ _ HC50.out] at h
                exact h
              have HN3 : Hid (NFB (wr.setCell ⟨g, n, none⟩ (.int .u32 (c : Nat))) P ⟨S, ea, m, ec, some ⟨g, 0, none⟩, rn, rc⟩) := by
                have h := HNM.out.cells_other (o := n * 1) (vs := wgs k) HT.out (by decide)
                rw [put1_eq _ _ _ _ _ HC50.out] at h
                exact h
              have HS3 : Hid (∀ j q W, G j q W → Fadd G' k (n + 1) (.slice (some ⟨g, 0, none⟩) rn rc) j q W) := fun j q W h => Or.inl (HSub.out j q W h)
              clear HSf HNM HGm hA hgc HT
              go_wp2
              go_roundw
              case rel => exact ⟨n + 1, _, by go_num, by omega, HP, HN3, Or.inr ⟨rfl, rfl, rfl⟩, HS3⟩
              case measure => simp [intOf]; omega
            · have hnn' : ¬ (n : Int) < (rn : Int) := by omega
              obtain rfl : n = rn := by omega
              have HFU2 : Hid (∀ (j : Nat) (y : Nf), xs[j]? = some y → G' j (if j < k + 1 then y.rn else 0) (uV y)) := fg_step (V := uV) (f := Nf.rn) HFU.out HSub.out HHY.out HGm.out
              clear z0 z1 z2
              go_wp2
              go_roundw
              case rel => exact ⟨k + 1, F', G', by go_num, by omega, HSf, HFE2, HFU2⟩
              case measure => simp [intOf]; omega
    · have hk5' : ¬ (k : Int) < 5 := by omega
      obtain rfl : k = 5 := by omega
      have HFEf : Hid (∀ (j : Nat) (y : Nf), xs[j]? = some y → F j y.en (eV y)) := fun j y h => by
        have h1 := HFE.out j y h
        have h2 := (List.getElem?_eq_some_iff.1 h).1
        rw [HX5.out] at h2
        rw [if_pos h2] at h1
        exact h1
      have HFUf : Hid (∀ (j : Nat) (y : Nf), xs[j]? = some y → G j y.rn (uV y)) := fun j y h => by
        have h1 := HFU.out j y h
        have h2 := (List.getElem?_eq_some_iff.1 h).1
        rw [HX5.out] at h2
        rw [if_pos h2] at h1
        exact h1
      clear HFE HFU
      go_upto_block 6 with fail
      go_cut [29, 30] (fun V1 V2 u => ∃ (F G : Nat → Nat → Value → Prop) (ls rs : List Value), Hid (Sf K u F G) ∧ Hid (RowV 35 u K.N0 V1 ls) ∧ Hid (RowV 36 u K.N0 V2 rs) ∧ Hid (∀ (j : Nat) (y : Nf), xs[j]? = some y → F j y.en (eV y)) ∧ Hid (∀ (j : Nat) (y : Nf), xs[j]? = some y → G j y.rn (uV y)) ∧ Hid (Grown xs Nf.en F 5 ls) ∧ Hid (Grown xs Nf.rn G 5 rs) ∧ Hid (ls.length = 5 ∧ rs.length = 5))
      case first =>
        go_wp2_with fail
        go_loopw [29, 30, 158] (fun V1 V2 i u => ∃ (k : Nat) (F G : Nat → Nat → Value → Prop) (ls rs : List Value), i = .int .i64 (k : Nat) ∧ k ≤ 5 ∧ Hid (ls.length = k ∧ rs.length = k) ∧ Hid (Sf K u F G) ∧ Hid (RowV 35 u K.N0 V1 ls) ∧ Hid (RowV 36 u K.N0 V2 rs) ∧ Hid (∀ (j : Nat) (y : Nf), xs[j]? = some y → F j y.en (eV y)) ∧ Hid (∀ (j : Nat) (y : Nf), xs[j]? = some y → G j y.rn (uV y)) ∧ Hid (Grown xs Nf.en F k ls) ∧ Hid (Grown xs Nf.rn G k rs)) (fun _ _ i _ => 5 - (intOf i).toNat)
        case atStart => exact ⟨0, F, G, [], [], rfl, by omega, ⟨rfl, rfl⟩, HSf, rowV_nil _ _ _, rowV_nil _ _ _, HFEf, HFUf, (fun _ _ _ h => absurd h (Nat.not_lt_zero _)), (fun _ _ _ h => absurd h (Nat.not_lt_zero _))⟩
        case round =>
          clear HSf HFEf HFUf
          obtain ⟨k, F, G, ls, rs, rfl, hk, HLL, HSf, HR1, HR2, HFE, HFU, HGE, HGU⟩ := hrel
          by_cases hk5 : k < 5
          · have hk5' : (k : Int) < 5 := by omega
            obtain ⟨y, hy⟩ : ∃ y, xs[k]? = some y := ⟨_, List.getElem?_eq_getElem (by rw [HX5.out]; exact hk5)⟩
            obtain ⟨bq, oq, eq, c0, c1, c2⟩ := (HLAT.out wr HSf.out.st).nth hy
            cases eq
            rw [Nat.zero_add] at c0 c1 c2
            have HYL := HLE.out k y hy
            have HFk : Hid (F k y.en (eV y)) := HFE.out k y hy
            have HGk : Hid (G k y.rn (uV y)) := HFU.out k y hy
            have HHY : Hid (xs[k]? = some y) := hy
            clear hy
            obtain ⟨S, ea, en, ec, ra, rn, rc⟩ := y
            simp only at c0 c1 c2 HYL
            have HFk : Hid (F k (en + 0) (.slice ea (en + 0) ec)) := HFk
            have HGk : Hid (G k (rn + 0) (.slice ra (rn + 0) rc)) := HGk
            have kk : Below wr.heap.size wr (wr.alloc (.cells #[.int .i64 S, .slice ea en ec, .slice ra rn rc] 38)) := (Below.refl _ _).alloc (Nat.le_refl _) _
            have HSf1 : Hid (Sf K (wr.alloc (.cells #[.int .i64 S, .slice ea en ec, .slice ra rn rc] 38)) F G) := HSf.out.later kk
            have HR11 : Hid (RowV 35 (wr.alloc (.cells #[.int .i64 S, .slice ea en ec, .slice ra rn rc] 38)) K.N0 u29 ls) := HR1.out.later kk
            have HR21 : Hid (RowV 36 (wr.alloc (.cells #[.int .i64 S, .slice ea en ec, .slice ra rn rc] 38)) K.N0 u30 rs) := HR2.out.later kk
            have HNM : Hid (NFB (wr.alloc (.cells #[.int .i64 S, .slice ea en ec, .slice ra rn rc] 38)) wr.heap.size ⟨S, ea, en, ec, ra, rn, rc⟩) := nfb_new wr ⟨S, ea, en, ec, ra, rn, rc⟩
            clear HSf HR1 HR2 kk
            go_upto_region 36 with fail
            obtain ⟨u1, hq⟩ : ∃ q, wr.alloc (.cells #[.int .i64 S, .slice ea en ec, .slice ra rn rc] 38) = q := ⟨_, rfl⟩
            obtain ⟨P, hP⟩ : ∃ q, wr.heap.size = q := ⟨_, rfl⟩
            rw [hq] at HSf1 HR11 HR21 HNM ⊢
            rw [hP] at HNM ⊢
            clear hq hP c0 c1 c2
            obtain ⟨c, hc⟩ : ∃ c, 50 + k = c := ⟨_, rfl⟩
            have h50 : (50 : Int) + (k : Int) = (c : Nat) := by omega
            have HC50 : Hid (50 + k = c) := hc
            have hcl : c < 100 := by omega
            clear hc
            obtain ⟨z0, z1, z2⟩ := HNM.out.cells
            simp only at z0 z1 z2
            go_quiet (fail)
            have kd : Below u1.heap.size u1 (u1.drewN nq) := ⟨rfl, rfl, rfl, Nat.le_refl _, fun _ _ => rfl⟩
            have HSf2 : Hid (Sf K (u1.drewN nq) F G) := HSf1.out.later kd
            have HNM2 : Hid (NFB (u1.drewN nq) P ⟨S, ea, en, ec, ra, rn, rc⟩) := HNM.out.later kd
            have HR12 : Hid (RowV 35 (u1.drewN nq) K.N0 u29 ls) := HR11.out.later kd
            have HR22 : Hid (RowV 36 (u1.drewN nq) K.N0 u30 rs) := HR21.out.later kd
            obtain ⟨u2, hu2⟩ : ∃ q, u1.drewN nq = q := ⟨_, rfl⟩
            rw [hu2] at HSf2 HNM2 HR12 HR22 ⊢
            clear kd hu2 HSf1 HNM HR11 HR21
            go_wp2_with fail
            clear z0 z1 z2
            go_loopw [33, 167] (fun V i u => ∃ (m cp : Nat) (ad : Option Addr) (F' : Nat → Nat → Value → Prop), V = .slice ad (en + m) cp ∧ i = .int .i64 (m : Nat) ∧ m ≤ 40 ∧ Hid (Sf K u F' G) ∧ Hid (NFB u P ⟨S, ea, en, ec, ra, rn, rc⟩) ∧ Hid (RowV 35 u K.N0 u29 ls) ∧ Hid (RowV 36 u K.N0 u30 rs) ∧ Hid (F' k (en + m) (.slice ad (en + m) cp)) ∧ Hid (∀ j n W, F j n W → F' j n W)) (fun _ i _ => 40 - (intOf i).toNat)
            case atStart => exact ⟨0, ec, ea, F, rfl, rfl, by omega, HSf2, HNM2, HR12, HR22, HFk, fun _ _ _ h => h⟩
            case round =>
              clear HSf2 HNM2 HR12 HR22 HFk
              obtain ⟨m, cp, ad, F', rfl, rfl, hm, HSf, HNM, HR1, HR2, HFm, HSub⟩ := hrel
              by_cases hm40 : m < 40
              · have hm40' : (m : Int) < 40 := by omega
                have kk : Below wr.heap.size wr (wr.alloc (.cells #[.int .i64 (c : Nat), .int .i64 0, .int .i64 0, .int .u64 0, .int .u64 0, .int .u64 0, .int .u64 0] 57)) := (Below.refl _ _).alloc (Nat.le_refl _) _
                have HSf1 : Hid (Sf K (wr.alloc (.cells #[.int .i64 (c : Nat), .int .i64 0, .int .i64 0, .int .u64 0, .int .u64 0, .int .u64 0, .int .u64 0] 57)) F' G) := HSf.out.later kk
                have HNM1 : Hid (NFB (wr.alloc (.cells #[.int .i64 (c : Nat), .int .i64 0, .int .i64 0, .int .u64 0, .int .u64 0, .int .u64 0, .int .u64 0] 57)) P ⟨S, ea, en, ec, ra, rn, rc⟩) := HNM.out.later kk
                have HR11 : Hid (RowV 35 (wr.alloc (.cells #[.int .i64 (c : Nat), .int .i64 0, .int .i64 0, .int .u64 0, .int .u64 0, .int .u64 0, .int .u64 0] 57)) K.N0 u29 ls) := HR1.out.later kk
                have HR21 : Hid (RowV 36 (wr.alloc (.cells #[.int .i64 (c : Nat), .int .i64 0, .int .i64 0, .int .u64 0, .int .u64 0, .int .u64 0, .int .u64 0] 57)) K.N0 u30 rs) := HR2.out.later kk
                have HCC : Hid (∀ j v, (egs k)[j]? = some v → (wr.alloc (.cells #[.int .i64 (c : Nat), .int .i64 0, .int .i64 0, .int .u64 0, .int .u64 0, .int .u64 0, .int .u64 0] 57)).cell? ((⟨wr.heap.size, 0, none⟩ : Addr).add j) = some v) := by
                  rw [egs_eq HC50.out]
                  exact cells_newl wr _ _
                clear HSf HNM HR1 HR2 kk
                go_upto_region 40 with (at_builtin; go_must (refine wpList_append_egs rfl _ _ rfl HSf1.out k ad (en + m) cp rfl HFm.out (by omega) ⟨wr.heap.size, 0, none⟩ 1 rfl HCC.out ?_; intro g cap' u2 hS2 hg2; have HSf2 : Hid (Sf K u2 (Fadd F' k (en + m + 1) (.slice (some ⟨g, 0, none⟩) (en + m + 1) cap')) G) := hS2; have HG2 : Hid (∃ r, (wr.alloc (.cells #[.int .i64 (c : Nat), .int .i64 0, .int .i64 0, .int .u64 0, .int .u64 0, .int .u64 0, .int .u64 0] 57)).grownBy u2 r ∧ ∀ k, r = some k → TyB (wr.alloc (.cells #[.int .i64 (c : Nat), .int .i64 0, .int .i64 0, .int .u64 0, .int .u64 0, .int .u64 0, .int .u64 0] 57)) 57 k) := hg2; clear hS2 hg2))
                obtain ⟨r2, g2, t2'⟩ := HG2.out
                have HNM2 : Hid (NFB u2 P ⟨S, ea, en, ec, ra, rn, rc⟩) := HNM1.out.grown g2 t2' (by decide)
                have HR12 : Hid (RowV 35 u2 K.N0 u29 ls) := HR11.out.grown g2 t2' (by decide)
                have HR22 : Hid (RowV 36 u2 K.N0 u30 rs) := HR21.out.grown g2 t2' (by decide)
                have HS3 : Hid (∀ j n W, F j n W → Fadd F' k (en + m + 1) (.slice (some ⟨g, 0, none⟩) (en + m + 1) cap') j n W) := fun j n W h => Or.inl (HSub.out j n W h)
                clear HG2 g2 t2' HSf1 HNM1 HR11 HR21 HCC HFm HSub
                go_wp2
                go_roundw
                case rel => exact ⟨m + 1, cap', some ⟨g, 0, none⟩, _, rfl, by go_num, by omega, HSf2, HNM2, HR12, HR22, Or.inr ⟨rfl, rfl, rfl⟩, HS3⟩
                case measure => simp [intOf]; omega
              · have hm40' : ¬ (m : Int) < 40 := by omega
                obtain rfl : m = 40 := by omega
                have HFE2 : Hid (∀ (j : Nat) (y : Nf), xs[j]? = some y → F' j y.en (eV y)) := more_all (V := eV) (f := Nf.en) HFE.out HSub.out
                have HGE2 : Hid (Grown xs Nf.en F' (k + 1) (ls ++ [.slice ad (en + 40) cp])) := grown_step HGE.out HSub.out HLL.out.1 HHY.out HFm.out
                clear HFE HGE HFm HSub hm
                have hd40 : decide (((40 : Nat) : Int) < 40) = false := by decide
                have hd41 : decide ((40 : Int) < 40) = false := by decide
                go_wp2_with fail
                clear hd40 hd41 hm40'
                go_loopw [34, 176] (fun V i u => ∃ (m cq : Nat) (bd : Option Addr) (G' : Nat → Nat → Value → Prop), V = .slice bd (rn + m) cq ∧ i = .int .i64 (m : Nat) ∧ m ≤ 40 ∧ Hid (Sf K u F' G') ∧ Hid (NFB u P ⟨S, ea, en, ec, ra, rn, rc⟩) ∧ Hid (RowV 35 u K.N0 u29 ls) ∧ Hid (RowV 36 u K.N0 u30 rs) ∧ Hid (G' k (rn + m) (.slice bd (rn + m) cq)) ∧ Hid (∀ j n W, G j n W → G' j n W)) (fun _ i _ => 40 - (intOf i).toNat)
                case atStart => exact ⟨0, rc, ra, G, rfl, rfl, by omega, HSf, HNM, HR1, HR2, HGk, fun _ _ _ h => h⟩
                case round =>
                  clear HSf HNM HR1 HR2 HGk
                  obtain ⟨m, cq, bd, G', rfl, rfl, hm, HSf, HNM, HR1, HR2, HGm, HSub⟩ := hrel
                  by_cases hm40 : m < 40
                  · have hm40' : (m : Int) < 40 := by omega
                    have hcm : IntKind.u32.wrap (c : Int) = (c : Nat) := by rw [IntKind.wrap_u32]; omega
                    have hcm2 : (c : Int) % 4294967296 = (c : Nat) := by omega
                    have kk : Below wr.heap.size wr (wr.alloc (.cells #[.int .u32 (c : Nat)] 44)) := (Below.refl _ _).alloc (Nat.le_refl _) _
                    have HSf1 : Hid (Sf K (wr.alloc (.cells #[.int .u32 (c : Nat)] 44)) F' G') := HSf.out.later kk
                    have HNM1 : Hid (NFB (wr.alloc (.cells #[.int .u32 (c : Nat)] 44)) P ⟨S, ea, en, ec, ra, rn, rc⟩) := HNM.out.later kk
                    have HR11 : Hid (RowV 35 (wr.alloc (.cells #[.int .u32 (c : Nat)] 44)) K.N0 u29 ls) := HR1.out.later kk
                    have HR21 : Hid (RowV 36 (wr.alloc (.cells #[.int .u32 (c : Nat)] 44)) K.N0 u30 rs) := HR2.out.later kk
                    have HCC : Hid (∀ j v, (wgs k)[j]? = some v → (wr.alloc (.cells #[.int .u32 (c : Nat)] 44)).cell? ((⟨wr.heap.size, 0, none⟩ : Addr).add j) = some v) := by
                      rw [wgs_eq HC50.out]
                      exact cells_newl wr _ _
                    clear HSf HNM HR1 HR2 kk
                    go_upto_region 44 with (at_builtin; go_must (refine wpList_append_wgs rfl _ _ rfl HSf1.out k bd (rn + m) cq rfl HGm.out (by omega) ⟨wr.heap.size, 0, none⟩ 1 rfl HCC.out ?_; intro g cap' u2 hS2 hg2; have HSf2 : Hid (Sf K u2 F' (Fadd G' k (rn + m + 1) (.slice (some ⟨g, 0, none⟩) (rn + m + 1) cap'))) := hS2; have HG2 : Hid (∃ r, (wr.alloc (.cells #[.int .u32 (c : Nat)] 44)).grownBy u2 r ∧ ∀ k, r = some k → TyB (wr.alloc (.cells #[.int .u32 (c : Nat)] 44)) 44 k) := hg2; clear hS2 hg2))
                    obtain ⟨r2, g2, t2'⟩ := HG2.out
                    have HNM2 : Hid (NFB u2 P ⟨S, ea, en, ec, ra, rn, rc⟩) := HNM1.out.grown g2 t2' (by decide)
                    have HR12 : Hid (RowV 35 u2 K.N0 u29 ls) := HR11.out.grown g2 t2' (by decide)
                    have HR22 : Hid (RowV 36 u2 K.N0 u30 rs) := HR21.out.grown g2 t2' (by decide)
                    have HS3 : Hid (∀ j n W, G j n W → Fadd G' k (rn + m + 1) (.slice (some ⟨g, 0, none⟩) (rn + m + 1) cap') j n W) := fun j n W h => Or.inl (HSub.out j n W h)
                    clear HG2 g2 t2' HSf1 HNM1 HR11 HR21 HCC HGm HSub
                    go_wp2
                    go_roundw
                    case rel => exact ⟨m + 1, cap', some ⟨g, 0, none⟩, _, rfl, by go_num, by omega, HSf2, HNM2, HR12, HR22, Or.inr ⟨rfl, rfl, rfl⟩, HS3⟩
                    case measure => simp [intOf]; omega
                  · have hm40' : ¬ (m : Int) < 40 := by omega
                    obtain rfl : m = 40 := by omega
                    have HFU2 : Hid (∀ (j : Nat) (y : Nf), xs[j]? = some y → G' j y.rn (uV y)) := more_all (V := uV) (f := Nf.rn) HFU.out HSub.out
                    have HGU2 : Hid (Grown xs Nf.rn G' (k + 1) (rs ++ [.slice bd (rn + 40) cq])) := grown_step HGU.out HSub.out HLL.out.2 HHY.out HGm.out
                    clear HFU HGU HGm HSub hm40' hm
                    have kk : Below wr.heap.size wr (wr.alloc (.cells #[.slice ad (en + 40) cp] 35)) := (Below.refl _ _).alloc (Nat.le_refl _) _
                    have HSf1 : Hid (Sf K (wr.alloc (.cells #[.slice ad (en + 40) cp] 35)) F' G') := HSf.out.later kk
                    have HR11 : Hid (RowV 35 (wr.alloc (.cells #[.slice ad (en + 40) cp] 35)) K.N0 u29 ls) := HR1.out.later kk
                    have HR21 : Hid (RowV 36 (wr.alloc (.cells #[.slice ad (en + 40) cp] 35)) K.N0 u30 rs) := HR2.out.later kk
                    have HC1 : Hid ((wr.alloc (.cells #[.slice ad (en + 40) cp] 35)).cell? ⟨wr.heap.size, 0, none⟩ = some (.slice ad (en + 40) cp)) := by
                      exact cell_new1 wr _ _
                    clear HSf HNM HR1 HR2 kk
                    have hls : ls.length ≤ 100 := by have := HLL.out.1; omega
                    have hrs : rs.length ≤ 100 := by have := HLL.out.2; omega
                    go_upto_region 46 with (at_builtin; first
                      | (refine wpList_append_rowV rfl _ _ 58 35 rfl Try.underlying58 infoLE K.N0 u29 ls HR11.out HSf1.out.st.big hls rfl ⟨wr.heap.size, 0, none⟩ 1 ad (en + 40) cp rfl HC1.out ?_; intro V1' u2 hr2 hg2; have HSf2 : Hid (Sf K u2 F' G') := HSf1.out.grownV hg2 (fun q hq => ⟨(HR11.out.ty q hq).1, _, (HR11.out.ty q hq).2, by decide, by decide, by decide⟩); have HR12 : Hid (RowV 35 u2 K.N0 V1' (ls ++ [.slice ad (en + 40) cp])) := hr2; have HR22 : Hid (RowV 36 u2 K.N0 u30 rs) := HR21.out.grown hg2 (fun q hq => (HR11.out.ty q hq).2) (by decide); have kk : Below u2.heap.size u2 (u2.alloc (.cells #[.slice bd (rn + 40) cq] 36)) := (Below.refl _ _).alloc (Nat.le_refl _) _; have HSf3 : Hid (Sf K (u2.alloc (.cells #[.slice bd (rn + 40) cq] 36)) F' G') := HSf2.out.later kk; have HR13 : Hid (RowV 35 (u2.alloc (.cells #[.slice bd (rn + 40) cq] 36)) K.N0 V1' (ls ++ [.slice ad (en + 40) cp])) := HR12.out.later kk; have HR23 : Hid (RowV 36 (u2.alloc (.cells #[.slice bd (rn + 40) cq] 36)) K.N0 u30 rs) := HR22.out.later kk; have HC2 : Hid ((u2.alloc (.cells #[.slice bd (rn + 40) cq] 36)).cell? ⟨u2.heap.size, 0, none⟩ = some (.slice bd (rn + 40) cq)) := cell_new1 u2 _ _; clear hr2 hg2 kk HSf1 HR11 HR21 HC1 HSf2 HR12 HR22)
                      | (refine wpList_append_rowV rfl _ _ 59 36 rfl Try.underlying59 infoLU K.N0 u30 rs HR23.out HSf3.out.st.big hrs rfl ⟨u2.heap.size, 0, none⟩ 1 bd (rn + 40) cq rfl HC2.out ?_; intro V2' u4 hr4 hg4; have HSf4 : Hid (Sf K u4 F' G') := HSf3.out.grownV hg4 (fun q hq => ⟨(HR23.out.ty q hq).1, _, (HR23.out.ty q hq).2, by decide, by decide, by decide⟩); have HR24 : Hid (RowV 36 u4 K.N0 V2' (rs ++ [.slice bd (rn + 40) cq])) := hr4; have HR14 : Hid (RowV 35 u4 K.N0 V1' (ls ++ [.slice ad (en + 40) cp])) := HR13.out.grown hg4 (fun q hq => (HR23.out.ty q hq).2) (by decide); clear hr4 hg4 HSf3 HR13 HR23 HC2))
                    have HLL2 : Hid ((ls ++ [Value.slice ad (en + 40) cp]).length = k + 1 ∧ (rs ++ [Value.slice bd (rn + 40) cq]).length = k + 1) := by
                      have h := HLL.out
                      simp only [List.length_append, List.length_cons, List.length_nil]
                      exact ⟨by omega, by omega⟩
                    clear hls hrs
                    go_wp2
                    go_roundw
                    case rel => exact ⟨k + 1, F', G', _, _, by go_num, by omega, HLL2, HSf4, HR14, HR24, HFE2, HFU2, HGE2, HGU2⟩
                    case measure => simp [intOf]; omega
          · obtain rfl : k = 5 := by omega
            have hk5' : ¬ ((5 : Nat) : Int) < 5 := by omega
            go_wp2_with fail
            go_meet
            case rel => exact ⟨F, G, ls, rs, HSf, HR1, HR2, HFE, HFU, HGE, HGU, HLL⟩
      case rest =>
        obtain ⟨F, G, ls, rs, HSf, HR1, HR2, HFE, HFU, HGE, HGU, HLL⟩ := hcut
        obtain ⟨a1, p1, eV1⟩ := HR1.out.form
        obtain ⟨a2, p2, eV2⟩ := HR2.out.form
        rw [HLL.out.1] at eV1
        rw [HLL.out.2] at eV2
        subst eV1 eV2
        go_wp2_with fail
        go_loopw [196] (fun i u => ∃ k : Nat, i = .int .i64 (k : Nat) ∧ k ≤ 5 ∧ Hid (Sf K u F G) ∧ Hid (RowV 35 u K.N0 (.slice a1 5 p1) ls) ∧ Hid (RowV 36 u K.N0 (.slice a2 5 p2) rs)) (fun i _ => 5 - (intOf i).toNat)
        case atStart => exact ⟨0, rfl, by omega, HSf, HR1, HR2⟩
        case round =>
          clear HSf HR1 HR2
          obtain ⟨k, rfl, hk, HSf, HR1, HR2⟩ := hrel
          by_cases hk5 : k < 5
          · have hk5' : (k : Int) < 5 := by omega
            obtain ⟨y, hy⟩ : ∃ y, xs[k]? = some y := ⟨_, List.getElem?_eq_getElem (by rw [HX5.out]; exact hk5)⟩
            obtain ⟨bq, oq, eq, c0, c1, c2⟩ := (HLAT.out wr HSf.out.st).nth hy
            cases eq
            rw [Nat.zero_add] at c0 c1 c2
            have HYL := HLE.out k y hy
            obtain ⟨la, lc, hl, hF⟩ := HGE.out k y hy (by omega)
            obtain ⟨ra', rc', hr, hG⟩ := HGU.out k y hy (by omega)
            have HFL : Hid (F k (y.en + 40) (.slice la (y.en + 40) lc)) := hF
            have HGL : Hid (G k (y.rn + 40) (.slice ra' (y.rn + 40) rc')) := hG
            have HFk : Hid (F k y.en (eV y)) := HFE.out k y hy
            have HGk : Hid (G k y.rn (uV y)) := HFU.out k y hy
            have HLK : Hid (ls[k]? = some (.slice la (y.en + 40) lc) ∧ rs[k]? = some (.slice ra' (y.rn + 40) rc')) := ⟨hl, hr⟩
            clear hy hl hF hr hG
            obtain ⟨S, ea, en, ec, ra, rn, rc⟩ := y
            simp only at c0 c1 c2 HYL
            have HFL : Hid (F k (en + 40) (.slice la (en + 40) lc)) := HFL
            have HGL : Hid (G k (rn + 40) (.slice ra' (rn + 40) rc')) := HGL
            have HLK : Hid (ls[k]? = some (.slice la (en + 40) lc) ∧ rs[k]? = some (.slice ra' (rn + 40) rc')) := HLK
            have HFk : Hid (F k en (.slice ea en ec)) := HFk
            have HGk : Hid (G k rn (.slice ra rn rc)) := HGk
            have kk : Below wr.heap.size wr (wr.alloc (.cells #[.int .i64 S, .slice ea en ec, .slice ra rn rc] 38)) := (Below.refl _ _).alloc (Nat.le_refl _) _
            have HSf1 : Hid (Sf K (wr.alloc (.cells #[.int .i64 S, .slice ea en ec, .slice ra rn rc] 38)) F G) := HSf.out.later kk
            have HR11 : Hid (RowV 35 (wr.alloc (.cells #[.int .i64 S, .slice ea en ec, .slice ra rn rc] 38)) K.N0 (.slice a1 5 p1) ls) := HR1.out.later kk
            have HR21 : Hid (RowV 36 (wr.alloc (.cells #[.int .i64 S, .slice ea en ec, .slice ra rn rc] 38)) K.N0 (.slice a2 5 p2) rs) := HR2.out.later kk
            have HNM : Hid (NFB (wr.alloc (.cells #[.int .i64 S, .slice ea en ec, .slice ra rn rc] 38)) wr.heap.size ⟨S, ea, en, ec, ra, rn, rc⟩) := nfb_new wr ⟨S, ea, en, ec, ra, rn, rc⟩
            clear HSf HR1 HR2 kk
            go_upto_region 50 with fail
            obtain ⟨u1, hq⟩ : ∃ q, wr.alloc (.cells #[.int .i64 S, .slice ea en ec, .slice ra rn rc] 38) = q := ⟨_, rfl⟩
            obtain ⟨P, hP⟩ : ∃ q, wr.heap.size = q := ⟨_, rfl⟩
            rw [hq] at HSf1 HR11 HR21 HNM ⊢
            rw [hP] at HNM ⊢
            clear hq hP c0 c1 c2
            obtain ⟨c, hc⟩ : ∃ c, 50 + k = c := ⟨_, rfl⟩
            have h50 : (50 : Int) + (k : Int) = (c : Nat) := by omega
            have HC50 : Hid (50 + k = c) := hc
            have hcl : c < 100 := by omega
            clear hc
            obtain ⟨gl, cl, eq, cl0⟩ := HR11.out.nth HLK.out.1
            obtain ⟨e1, -, e3⟩ := Value.slice.inj eq
            subst e1 e3
            clear eq
            go_wp2_with fail
            clear cl0
            go_loopw [206] (fun i u => ∃ m : Nat, i = .int .i64 (m : Nat) ∧ m ≤ en + 40 ∧ Hid (Sf K u F G) ∧ Hid (NFB u P ⟨S, ea, en, ec, ra, rn, rc⟩) ∧ Hid (RowV 35 u K.N0 (.slice (some ⟨gl, 0, none⟩) 5 p1) ls) ∧ Hid (RowV 36 u K.N0 (.slice a2 5 p2) rs)) (fun i _ => en + 40 - (intOf i).toNat)
            case atStart => exact ⟨0, rfl, Nat.zero_le _, HSf1, HNM, HR11, HR21⟩
            case round =>
              clear HSf1 HNM HR11 HR21
              obtain ⟨m, rfl, hm, HSf, HNM, HR1, HR2⟩ := hrel
              by_cases hmn : m < en + 40
              · have hmn' : (m : Int) < ((en + 40 : Nat) : Int) := by omega
                have hmn2 : (m : Int) < (en : Int) + 40 := by omega
                obtain ⟨g, hla, hcs⟩ := (HSf.out.fe.al _ _ _ HFL.out).nth (egs_len k) hmn
                cases hla
                rw [egs_eq HC50.out] at hcs
                have p0 := (hcs 0 _ rfl).1
                have p1' := (hcs 1 _ rfl).1
                have p2' := (hcs 2 _ rfl).1
                have p3' := (hcs 3 _ rfl).1
                have p4' := (hcs 4 _ rfl).1
                have p5' := (hcs 5 _ rfl).1
                have p6' := (hcs 6 _ rfl).1
                rw [Nat.add_zero] at p0
                clear hcs
                have kk : Below wr.heap.size wr (wr.alloc (.cells #[.int .i64 (c : Nat), .int .i64 0, .int .i64 0, .int .u64 0, .int .u64 0, .int .u64 0, .int .u64 0] 57)) := (Below.refl _ _).alloc (Nat.le_refl _) _
                have HSf1 : Hid (Sf K (wr.alloc (.cells #[.int .i64 (c : Nat), .int .i64 0, .int .i64 0, .int .u64 0, .int .u64 0, .int .u64 0, .int .u64 0] 57)) F G) := HSf.out.later kk
                have HNM1 : Hid (NFB (wr.alloc (.cells #[.int .i64 (c : Nat), .int .i64 0, .int .i64 0, .int .u64 0, .int .u64 0, .int .u64 0, .int .u64 0] 57)) P ⟨S, ea, en, ec, ra, rn, rc⟩) := HNM.out.later kk
                have HR11 : Hid (RowV 35 (wr.alloc (.cells #[.int .i64 (c : Nat), .int .i64 0, .int .i64 0, .int .u64 0, .int .u64 0, .int .u64 0, .int .u64 0] 57)) K.N0 (.slice (some ⟨gl, 0, none⟩) 5 p1) ls) := HR1.out.later kk
                have HR21 : Hid (RowV 36 (wr.alloc (.cells #[.int .i64 (c : Nat), .int .i64 0, .int .i64 0, .int .u64 0, .int .u64 0, .int .u64 0, .int .u64 0] 57)) K.N0 (.slice a2 5 p2) rs) := HR2.out.later kk
                have HZ0 : Hid ((wr.alloc (.cells #[.int .i64 (c : Nat), .int .i64 0, .int .i64 0, .int .u64 0, .int .u64 0, .int .u64 0, .int .u64 0] 57)).cell? ⟨wr.heap.size, 0, none⟩ = some (.int .i64 (c : Nat))) := cell_newc wr _ _ rfl
                clear HSf HNM HR1 HR2 kk
                go_upto_region 53 with fail
                obtain ⟨u2, hq⟩ : ∃ q, wr.alloc (.cells #[.int .i64 (c : Nat), .int .i64 0, .int .i64 0, .int .u64 0, .int .u64 0, .int .u64 0, .int .u64 0] 57) = q := ⟨_, rfl⟩
                obtain ⟨Z, hZ⟩ : ∃ q, wr.heap.size = q := ⟨_, rfl⟩
                rw [hq] at HSf1 HNM1 HR11 HR21 HZ0 ⊢
                rw [hZ] at HZ0 ⊢
                clear hq hZ p0 p1' p2' p3' p4' p5' p6'
                have z0 := HZ0.out
                obtain ⟨b0, b1, b2⟩ := HNM1.out.cells
                simp only at b0 b1 b2
                have ecc : ((c : Int) != (c : Int)) = false := by simp
                by_cases hme : m < en
                · have hme' : (m : Int) < (en : Int) := by omega
                  obtain ⟨g', hea, hcs⟩ := (HSf1.out.fe.al _ _ _ HFk.out).nth (egs_len k) hme
                  subst hea
                  rw [egs_eq HC50.out] at hcs
                  have y0 := (hcs 0 _ rfl).1
                  rw [Nat.add_zero] at y0
                  clear hcs
                  go_wp2
                  go_roundw
                  case rel => exact ⟨m + 1, by go_num, by omega, HSf1, HNM1, HR11, HR21⟩
                  case measure => simp [intOf]; omega
                · have hme' : ¬ (m : Int) < (en : Int) := by omega
                  go_wp2
                  go_roundw
                  case rel => exact ⟨m + 1, by go_num, by omega, HSf1, HNM1, HR11, HR21⟩
                  case measure => simp [intOf]; omega
              · have hmn' : ¬ (m : Int) < ((en + 40 : Nat) : Int) := by omega
                have hmn2 : ¬ (m : Int) < (en : Int) + 40 := by omega
                clear hm
                obtain ⟨gr, cr, eq, cr0⟩ := HR2.out.nth HLK.out.2
                obtain ⟨e1, -, e3⟩ := Value.slice.inj eq
                subst e1 e3
                clear eq
                go_wp2_with fail
                clear cr0
                go_loopw [240] (fun i u => ∃ m : Nat, i = .int .i64 (m : Nat) ∧ m ≤ rn + 40 ∧ Hid (Sf K u F G) ∧ Hid (NFB u P ⟨S, ea, en, ec, ra, rn, rc⟩) ∧ Hid (RowV 35 u K.N0 (.slice (some ⟨gl, 0, none⟩) 5 p1) ls) ∧ Hid (RowV 36 u K.N0 (.slice (some ⟨gr, 0, none⟩) 5 p2) rs)) (fun i _ => rn + 40 - (intOf i).toNat)
                case atStart => exact ⟨0, rfl, Nat.zero_le _, HSf, HNM, HR1, HR2⟩
                case round =>
                  clear HSf HNM HR1 HR2
                  obtain ⟨q, rfl, hq, HSf, HNM, HR1, HR2⟩ := hrel
                  by_cases hqn : q < rn + 40
                  · have hqn' : (q : Int) < ((rn + 40 : Nat) : Int) := by omega
                    have hqn2 : (q : Int) < (rn : Int) + 40 := by omega
                    have hcm : IntKind.u32.wrap (c : Int) = (c : Nat) := by rw [IntKind.wrap_u32]; omega
                    have hcm2 : (c : Int) % 4294967296 = (c : Nat) := by omega
                    have ecc : ((c : Int) != (c : Int)) = false := by simp
                    obtain ⟨g, hla, hcs⟩ := (HSf.out.fu.al _ _ _ HGL.out).nth (wgs_len k) hqn
                    cases hla
                    rw [wgs_eq HC50.out] at hcs
                    have p0 := (hcs 0 _ rfl).1
                    rw [Nat.add_zero, Nat.mul_one] at p0
                    clear hcs
                    obtain ⟨b0, b1, b2⟩ := HNM.out.cells
                    simp only at b0 b1 b2
                    by_cases hqr : q < rn
                    · have hqr' : (q : Int) < (rn : Int) := by omega
                      obtain ⟨g', hea, hcs⟩ := (HSf.out.fu.al _ _ _ HGk.out).nth (wgs_len k) hqr
                      subst hea
                      rw [wgs_eq HC50.out] at hcs
                      have y0 := (hcs 0 _ rfl).1
                      rw [Nat.add_zero, Nat.mul_one] at y0
                      clear hcs
                      go_wp2
                      go_roundw
                      case rel => exact ⟨q + 1, by go_num, by omega, HSf, HNM, HR1, HR2⟩
                      case measure => simp [intOf]; omega
                    · have hqr' : ¬ (q : Int) < (rn : Int) := by omega
                      go_wp2
                      go_roundw
                      case rel => exact ⟨q + 1, by go_num, by omega, HSf, HNM, HR1, HR2⟩
                      case measure => simp [intOf]; omega
                  · have hqn' : ¬ (q : Int) < ((rn + 40 : Nat) : Int) := by omega
                    have hqn2 : ¬ (q : Int) < (rn : Int) + 40 := by omega
                    go_wp2
                    go_roundw
                    case rel => exact ⟨k + 1, by go_num, by omega, HSf, HR1, HR2⟩
                    case measure => simp [intOf]; omega
          · have hk5' : ¬ (k : Int) < 5 := by omega
            obtain rfl : k = 5 := by omega
            obtain ⟨eK0, eKA, eKB, eKX, eKY, eKW, eKL, eka, ekb, ekx, eky, ekv, ekxs, ekA, ekB, ekD⟩ := HK.out
            have hst := HSf.out.st
            have hlow := hst.low
            rw [eK0] at hlow
            have HB : Hid (Below w.heap.size w wr) := below_step HB5.out hlow
            have HIN : Hid (InAt wr t x) := HIN5.out.later hlow
            have HNT : Hid (NB wr TT x) := HNT5.out.later hlow
            have HNA : Hid (NFB wr A ya) := by have h := hst.na; rw [eKA, eka] at h; exact h
            have HNB : Hid (NFB wr B yb) := by have h := hst.nb; rw [eKB, ekb] at h; exact h
            have HNX : Hid (NFB wr X xa) := by have h := hst.nx; rw [eKX, ekx] at h; exact h
            have HNY : Hid (NFB wr Y xb) := by have h := hst.ny; rw [eKY, eky] at h; exact h
            have HNW : Hid (NFB wr WW xw) := by have h := hst.nv; rw [eKW, ekv] at h; exact h
            have HCX : Hid (Cop (fun b => ¬ K.D b) wr MA xa) := by have h := hst.cx; rw [ekA, ekx] at h; exact h
            have HCY : Hid (Cop (fun b => ¬ K.D b) wr MB xb) := by have h := hst.cy; rw [ekB, eky] at h; exact h
            have HCW : Hid (Cop (fun b => ¬ K.D b) wr MD xw) := by have h := hst.cv; rw [ekD, ekv] at h; exact h
            have hF0 := HFE.out 0 ya (by rw [← HXS.out]; rfl)
            have hF1 := HFE.out 1 yb (by rw [← HXS.out]; rfl)
            have hG0 := HFU.out 0 ya (by rw [← HXS.out]; rfl)
            have hG1 := HFU.out 1 yb (by rw [← HXS.out]; rfl)
            have hfe := HSf.out.fe
            have hfu := HSf.out.fu
            have HAE : Hid (Alk 57 7 wr (egs 0) ya.en (eV ya)) := hfe.al _ _ _ hF0
            have HAU : Hid (Alk 44 1 wr (wgs 0) ya.rn (uV ya)) := hfu.al _ _ _ hG0
            have HBE : Hid (Alk 57 7 wr (egs 1) yb.en (eV yb)) := hfe.al _ _ _ hF1
            have HBU : Hid (Alk 44 1 wr (wgs 1) yb.rn (uV yb)) := hfu.al _ _ _ hG1
            have hlo : ∀ b, K.D b → w.heap.size ≤ b := fun b hb => by have h1 := K.hD0 b hb; rw [eK0] at h1; have h2 := HB5.out.size; omega
            have HDA : Hid (∀ b, (eV ya).ownBlock = some b → K.D b ∧ w.heap.size ≤ b ∧ b < wr.heap.size) := fun b e => ⟨hfe.dd _ _ _ b hF0 e, hlo b (hfe.dd _ _ _ b hF0 e), (HAE.out.blk b e).1⟩
            have HDU : Hid (∀ b, (uV ya).ownBlock = some b → K.D b ∧ w.heap.size ≤ b ∧ b < wr.heap.size) := fun b e => ⟨hfu.dd _ _ _ b hG0 e, hlo b (hfu.dd _ _ _ b hG0 e), (HAU.out.blk b e).1⟩
            have HDB : Hid (∀ b, (eV yb).ownBlock = some b → K.D b ∧ w.heap.size ≤ b ∧ b < wr.heap.size) := fun b e => ⟨hfe.dd _ _ _ b hF1 e, hlo b (hfe.dd _ _ _ b hF1 e), (HBE.out.blk b e).1⟩
            have HDV : Hid (∀ b, (uV yb).ownBlock = some b → K.D b ∧ w.heap.size ≤ b ∧ b < wr.heap.size) := fun b e => ⟨hfu.dd _ _ _ b hG1 e, hlo b (hfu.dd _ _ _ b hG1 e), (HBU.out.blk b e).1⟩
            have HSAB : Hid (∀ b, (eV yb).ownBlock = some b → (eV ya).ownBlock ≠ some b) := fun b e e2 => absurd (hfe.sep _ _ _ _ _ _ b hF1 hF0 e e2) (by decide)
            have HSUV : Hid (∀ b, (uV yb).ownBlock = some b → (uV ya).ownBlock ≠ some b) := fun b e e2 => absurd (hfu.sep _ _ _ _ _ _ b hG1 hG0 e e2) (by decide)
            have HTEU : Hid (∀ (y z : Nf) b, TyB wr 57 b → TyB wr 44 b → False) := fun _ _ b h1 h2 => absurd (TyB.ne h1 h2) (by decide)
            have HSEU : Hid (∀ b, (uV ya).ownBlock = some b → (eV ya).ownBlock ≠ some b) := fun b e e2 => absurd (TyB.ne (HAE.out.blk b e2).2 (HAU.out.blk b e).2) (by decide)
            have HSEV : Hid (∀ b, (uV yb).ownBlock = some b → (eV ya).ownBlock ≠ some b) := fun b e e2 => absurd (TyB.ne (HAE.out.blk b e2).2 (HBU.out.blk b e).2) (by decide)
            have HSBU : Hid (∀ b, (eV yb).ownBlock = some b → (uV ya).ownBlock ≠ some b) := fun b e e2 => absurd (TyB.ne (HBE.out.blk b e).2 (HAU.out.blk b e2).2) (by decide)
            have HSBV : Hid (∀ b, (uV yb).ownBlock = some b → (eV yb).ownBlock ≠ some b) := fun b e e2 => absurd (TyB.ne (HBE.out.blk b e2).2 (HBU.out.blk b e).2) (by decide)
            have HSEUr : Hid (∀ b, (eV ya).ownBlock = some b → (uV ya).ownBlock ≠ some b) := fun b e e2 => HSEU.out b e2 e
            have HSABr : Hid (∀ b, (eV ya).ownBlock = some b → (eV yb).ownBlock ≠ some b) := fun b e e2 => HSAB.out b e2 e
            have HSBUr : Hid (∀ b, (uV ya).ownBlock = some b → (eV yb).ownBlock ≠ some b) := fun b e e2 => HSBU.out b e2 e
            have HSEVr : Hid (∀ b, (eV ya).ownBlock = some b → (uV yb).ownBlock ≠ some b) := fun b e e2 => HSEV.out b e2 e
            have HSUVr : Hid (∀ b, (uV ya).ownBlock = some b → (uV yb).ownBlock ≠ some b) := fun b e e2 => HSUV.out b e2 e
            have HSBVr : Hid (∀ b, (eV yb).ownBlock = some b → (uV yb).ownBlock ≠ some b) := fun b e e2 => HSBV.out b e2 e
            obtain ⟨n0, hn0⟩ : ∃ n, n = wr.heap.size := ⟨_, rfl⟩
            rw [← hn0] at HDA HDU HDB HDV
            have HN0 : Hid (n0 ≤ wr.heap.size) := by show _ ≤ _; omega
            clear hn0 hst hlow eK0 eKA eKB eKX eKY eKW eKL eka ekb ekx eky ekv ekxs ekA ekB ekD hF0 hF1 hG0 hG1 hfe hfu hlo HSf HR1 HR2 HFE HFU HGE HGU HTEU HIN5 HNT5 HB5 HK HXS HX5 HLAT HLE
            obtain ⟨y0, y1, y2, y3, y4, y5, y6, y7⟩ := HNT.out.cells
            have HC : Hid (Calls Try.prog 11 #[x.val, .int .i64 1] wr _) := bui_any HIN.out 1
            rw [HEA.out] at HC
            unfold Nd.val at HC
            go_wp2_with fail
            refine HC.out.mono ?_
            rintro e e1 ⟨kc, yp, ek, rfl, hm⟩
            have HOP : Hid (Own e1 n0 MA yp) := Own.low hm HN0.out
            clear HC hm y0 y1 y2 y3 y4 y5 y6 y7
            have HN0' : Hid (n0 ≤ e1.heap.size) := Nat.le_trans HN0.out kc.size
            have HB' : Hid (Below w.heap.size w e1) := below_step HB.out kc
            have HIN' : Hid (InAt e1 t x) := HIN.out.later kc
            have HNT' : Hid (NB e1 TT x) := HNT.out.later kc
            have HNA' : Hid (NFB e1 A ya) := HNA.out.later kc
            have HNB' : Hid (NFB e1 B yb) := HNB.out.later kc
            have HNX' : Hid (NFB e1 X xa) := HNX.out.later kc
            have HNY' : Hid (NFB e1 Y xb) := HNY.out.later kc
            have HNW' : Hid (NFB e1 WW xw) := HNW.out.later kc
            have HCX' : Hid (Cop (fun b => ¬ K.D b) e1 MA xa) := HCX.out.later kc
            have HCY' : Hid (Cop (fun b => ¬ K.D b) e1 MB xb) := HCY.out.later kc
            have HCW' : Hid (Cop (fun b => ¬ K.D b) e1 MD xw) := HCW.out.later kc
            have HAE' : Hid (Alk 57 7 e1 (egs 0) ya.en (eV ya)) := HAE.out.later kc
            have HAU' : Hid (Alk 44 1 e1 (wgs 0) ya.rn (uV ya)) := HAU.out.later kc
            have HBE' : Hid (Alk 57 7 e1 (egs 1) yb.en (eV yb)) := HBE.out.later kc
            have HBU' : Hid (Alk 44 1 e1 (wgs 1) yb.rn (uV yb)) := HBU.out.later kc
            clear HN0 HB HIN HNT HNA HNB HNX HNY HNW HCX HCY HCW HAE HAU HBE HBU
            have HN0 := HN0'
            have HB := HB'
            have HIN := HIN'
            have HNT := HNT'
            have HNA := HNA'
            have HNB := HNB'
            have HNX := HNX'
            have HNY := HNY'
            have HNW := HNW'
            have HCX := HCX'
            have HCY := HCY'
            have HCW := HCW'
            have HAE := HAE'
            have HAU := HAU'
            have HBE := HBE'
            have HBU := HBU'
            clear HN0' HB' HIN' HNT' HNA' HNB' HNX' HNY' HNW' HCX' HCY' HCW' HAE' HAU' HBE' HBU'
            clear kc
            have kk : Below e1.heap.size e1 (e1.alloc (.cells #[.int .i64 yp.S, .slice yp.ea yp.en yp.ec, .slice yp.ra yp.rn yp.rc] 38)) := (Below.refl _ _).alloc (Nat.le_refl _) _
            have HSz : Hid (e1.heap.size < (e1.alloc (.cells #[.int .i64 yp.S, .slice yp.ea yp.en yp.ec, .slice yp.ra yp.rn yp.rc] 38)).heap.size) := by show _ < _; simp
            have HN0' : Hid (n0 ≤ (e1.alloc (.cells #[.int .i64 yp.S, .slice yp.ea yp.en yp.ec, .slice yp.ra yp.rn yp.rc] 38)).heap.size) := Nat.le_trans HN0.out kk.size
            have HB' : Hid (Below w.heap.size w (e1.alloc (.cells #[.int .i64 yp.S, .slice yp.ea yp.en yp.ec, .slice yp.ra yp.rn yp.rc] 38))) := below_step HB.out kk
            have HIN' : Hid (InAt (e1.alloc (.cells #[.int .i64 yp.S, .slice yp.ea yp.en yp.ec, .slice yp.ra yp.rn yp.rc] 38)) t x) := HIN.out.later kk
            have HNT' : Hid (NB (e1.alloc (.cells #[.int .i64 yp.S, .slice yp.ea yp.en yp.ec, .slice yp.ra yp.rn yp.rc] 38)) TT x) := HNT.out.later kk
            have HNA' : Hid (NFB (e1.alloc (.cells #[.int .i64 yp.S, .slice yp.ea yp.en yp.ec, .slice yp.ra yp.rn yp.rc] 38)) A ya) := HNA.out.later kk
            have HNB' : Hid (NFB (e1.alloc (.cells #[.int .i64 yp.S, .slice yp.ea yp.en yp.ec, .slice yp.ra yp.rn yp.rc] 38)) B yb) := HNB.out.later kk
            have HNX' : Hid (NFB (e1.alloc (.cells #[.int .i64 yp.S, .slice yp.ea yp.en yp.ec, .slice yp.ra yp.rn yp.rc] 38)) X xa) := HNX.out.later kk
            have HNY' : Hid (NFB (e1.alloc (.cells #[.int .i64 yp.S, .slice yp.ea yp.en yp.ec, .slice yp.ra yp.rn yp.rc] 38)) Y xb) := HNY.out.later kk
            have HNW' : Hid (NFB (e1.alloc (.cells #[.int .i64 yp.S, .slice yp.ea yp.en yp.ec, .slice yp.ra yp.rn yp.rc] 38)) WW xw) := HNW.out.later kk
            have HCX' : Hid (Cop (fun b => ¬ K.D b) (e1.alloc (.cells #[.int .i64 yp.S, .slice yp.ea yp.en yp.ec, .slice yp.ra yp.rn yp.rc] 38)) MA xa) := HCX.out.later kk
            have HCY' : Hid (Cop (fun b => ¬ K.D b) (e1.alloc (.cells #[.int .i64 yp.S, .slice yp.ea yp.en yp.ec, .slice yp.ra yp.rn yp.rc] 38)) MB xb) := HCY.out.later kk
            have HCW' : Hid (Cop (fun b => ¬ K.D b) (e1.alloc (.cells #[.int .i64 yp.S, .slice yp.ea yp.en yp.ec, .slice yp.ra yp.rn yp.rc] 38)) MD xw) := HCW.out.later kk
            have HAE' : Hid (Alk 57 7 (e1.alloc (.cells #[.int .i64 yp.S, .slice yp.ea yp.en yp.ec, .slice yp.ra yp.rn yp.rc] 38)) (egs 0) ya.en (eV ya)) := HAE.out.later kk
            have HAU' : Hid (Alk 44 1 (e1.alloc (.cells #[.int .i64 yp.S, .slice yp.ea yp.en yp.ec, .slice yp.ra yp.rn yp.rc] 38)) (wgs 0) ya.rn (uV ya)) := HAU.out.later kk
            have HBE' : Hid (Alk 57 7 (e1.alloc (.cells #[.int .i64 yp.S, .slice yp.ea yp.en yp.ec, .slice yp.ra yp.rn yp.rc] 38)) (egs 1) yb.en (eV yb)) := HBE.out.later kk
            have HBU' : Hid (Alk 44 1 (e1.alloc (.cells #[.int .i64 yp.S, .slice yp.ea yp.en yp.ec, .slice yp.ra yp.rn yp.rc] 38)) (wgs 1) yb.rn (uV yb)) := HBU.out.later kk
            have HOP' : Hid (Own (e1.alloc (.cells #[.int .i64 yp.S, .slice yp.ea yp.en yp.ec, .slice yp.ra yp.rn yp.rc] 38)) n0 MA yp) := HOP.out.later kk
            clear HN0 HB HIN HNT HNA HNB HNX HNY HNW HCX HCY HCW HAE HAU HBE HBU HOP
            have HN0 := HN0'
            have HB := HB'
            have HIN := HIN'
            have HNT := HNT'
            have HNA := HNA'
            have HNB := HNB'
            have HNX := HNX'
            have HNY := HNY'
            have HNW := HNW'
            have HCX := HCX'
            have HCY := HCY'
            have HCW := HCW'
            have HAE := HAE'
            have HAU := HAU'
            have HBE := HBE'
            have HBU := HBU'
            have HOP := HOP'
            clear HN0' HB' HIN' HNT' HNA' HNB' HNX' HNY' HNW' HCX' HCY' HCW' HAE' HAU' HBE' HBU' HOP'
            have HNP : Hid (NFB (e1.alloc (.cells #[.int .i64 yp.S, .slice yp.ea yp.en yp.ec, .slice yp.ra yp.rn yp.rc] 38)) e1.heap.size yp) := nfb_new e1 yp
            unfold Nf.val
            go_upto_region 64 with fail
            obtain ⟨e2, hq⟩ : ∃ q, e1.alloc (.cells #[.int .i64 yp.S, .slice yp.ea yp.en yp.ec, .slice yp.ra yp.rn yp.rc] 38) = q := ⟨_, rfl⟩
            obtain ⟨PP, hb⟩ : ∃ q, e1.heap.size = q := ⟨_, rfl⟩
            rw [hq] at HSz HN0 HB HIN HNT HNA HNB HNX HNY HNW HCX HCY HCW HAE HAU HBE HBU HOP HNP ⊢
            rw [hb] at HNP ⊢
            have HZe2 : Hid (e1.heap.size < e2.heap.size) := HSz
            clear hq hb kk HSz
            obtain ⟨z0, z1, z2⟩ := HNX.out.cells
            obtain ⟨z3, z4, z5⟩ := HNY.out.cells
            have kk : Below e2.heap.size e2 (e2.alloc (.cells #[.int .i64 xa.S, .slice xa.ea xa.en xa.ec, .slice xa.ra xa.rn xa.rc, .int .i64 xb.S, .slice xb.ea xb.en xb.ec, .slice xb.ra xb.rn xb.rc] 38)) := (Below.refl _ _).alloc (Nat.le_refl _) _
            have HN0' : Hid (n0 ≤ (e2.alloc (.cells #[.int .i64 xa.S, .slice xa.ea xa.en xa.ec, .slice xa.ra xa.rn xa.rc, .int .i64 xb.S, .slice xb.ea xb.en xb.ec, .slice xb.ra xb.rn xb.rc] 38)).heap.size) := Nat.le_trans HN0.out kk.size
            have HB' : Hid (Below w.heap.size w (e2.alloc (.cells #[.int .i64 xa.S, .slice xa.ea xa.en xa.ec, .slice xa.ra xa.rn xa.rc, .int .i64 xb.S, .slice xb.ea xb.en xb.ec, .slice xb.ra xb.rn xb.rc] 38))) := below_step HB.out kk
            have HIN' : Hid (InAt (e2.alloc (.cells #[.int .i64 xa.S, .slice xa.ea xa.en xa.ec, .slice xa.ra xa.rn xa.rc, .int .i64 xb.S, .slice xb.ea xb.en xb.ec, .slice xb.ra xb.rn xb.rc] 38)) t x) := HIN.out.later kk
            have HNT' : Hid (NB (e2.alloc (.cells #[.int .i64 xa.S, .slice xa.ea xa.en xa.ec, .slice xa.ra xa.rn xa.rc, .int .i64 xb.S, .slice xb.ea xb.en xb.ec, .slice xb.ra xb.rn xb.rc] 38)) TT x) := HNT.out.later kk
            have HNA' : Hid (NFB (e2.alloc (.cells #[.int .i64 xa.S, .slice xa.ea xa.en xa.ec, .slice xa.ra xa.rn xa.rc, .int .i64 xb.S, .slice xb.ea xb.en xb.ec, .slice xb.ra xb.rn xb.rc] 38)) A ya) := HNA.out.later kk
            have HNB' : Hid (NFB (e2.alloc (.cells #[.int .i64 xa.S, .slice xa.ea xa.en xa.ec, .slice xa.ra xa.rn xa.rc, .int .i64 xb.S, .slice xb.ea xb.en xb.ec, .slice xb.ra xb.rn xb.rc] 38)) B yb) := HNB.out.later kk
            have HNX' : Hid (NFB (e2.alloc (.cells #[.int .i64 xa.S, .slice xa.ea xa.en xa.ec, .slice xa.ra xa.rn xa.rc, .int .i64 xb.S, .slice xb.ea xb.en xb.ec, .slice xb.ra xb.rn xb.rc] 38)) X xa) := HNX.out.later kk
            have HNY' : Hid (NFB (e2.alloc (.cells #[.int .i64 xa.S, .slice xa.ea xa.en xa.ec, .slice xa.ra xa.rn xa.rc, .int .i64 xb.S, .slice xb.ea xb.en xb.ec, .slice xb.ra xb.rn xb.rc] 38)) Y xb) := HNY.out.later kk
            have HNW' : Hid (NFB (e2.alloc (.cells #[.int .i64 xa.S, .slice xa.ea xa.en xa.ec, .slice xa.ra xa.rn xa.rc, .int .i64 xb.S, .slice xb.ea xb.en xb.ec, .slice xb.ra xb.rn xb.rc] 38)) WW xw) := HNW.out.later kk
            have HCX' : Hid (Cop (fun b => ¬ K.D b) (e2.alloc (.cells #[.int .i64 xa.S, .slice xa.ea xa.en xa.ec, .slice xa.ra xa.rn xa.rc, .int .i64 xb.S, .slice xb.ea xb.en xb.ec, .slice xb.ra xb.rn xb.rc] 38)) MA xa) := HCX.out.later kk
            have HCY' : Hid (Cop (fun b => ¬ K.D b) (e2.alloc (.cells #[.int .i64 xa.S, .slice xa.ea xa.en xa.ec, .slice xa.ra xa.rn xa.rc, .int .i64 xb.S, .slice xb.ea xb.en xb.ec, .slice xb.ra xb.rn xb.rc] 38)) MB xb) := HCY.out.later kk
            have HCW' : Hid (Cop (fun b => ¬ K.D b) (e2.alloc (.cells #[.int .i64 xa.S, .slice xa.ea xa.en xa.ec, .slice xa.ra xa.rn xa.rc, .int .i64 xb.S, .slice xb.ea xb.en xb.ec, .slice xb.ra xb.rn xb.rc] 38)) MD xw) := HCW.out.later kk
            have HAE' : Hid (Alk 57 7 (e2.alloc (.cells #[.int .i64 xa.S, .slice xa.ea xa.en xa.ec, .slice xa.ra xa.rn xa.rc, .int .i64 xb.S, .slice xb.ea xb.en xb.ec, .slice xb.ra xb.rn xb.rc] 38)) (egs 0) ya.en (eV ya)) := HAE.out.later kk
            have HAU' : Hid (Alk 44 1 (e2.alloc (.cells #[.int .i64 xa.S, .slice xa.ea xa.en xa.ec, .slice xa.ra xa.rn xa.rc, .int .i64 xb.S, .slice xb.ea xb.en xb.ec, .slice xb.ra xb.rn xb.rc] 38)) (wgs 0) ya.rn (uV ya)) := HAU.out.later kk
            have HBE' : Hid (Alk 57 7 (e2.alloc (.cells #[.int .i64 xa.S, .slice xa.ea xa.en xa.ec, .slice xa.ra xa.rn xa.rc, .int .i64 xb.S, .slice xb.ea xb.en xb.ec, .slice xb.ra xb.rn xb.rc] 38)) (egs 1) yb.en (eV yb)) := HBE.out.later kk
            have HBU' : Hid (Alk 44 1 (e2.alloc (.cells #[.int .i64 xa.S, .slice xa.ea xa.en xa.ec, .slice xa.ra xa.rn xa.rc, .int .i64 xb.S, .slice xb.ea xb.en xb.ec, .slice xb.ra xb.rn xb.rc] 38)) (wgs 1) yb.rn (uV yb)) := HBU.out.later kk
            have HOP' : Hid (Own (e2.alloc (.cells #[.int .i64 xa.S, .slice xa.ea xa.en xa.ec, .slice xa.ra xa.rn xa.rc, .int .i64 xb.S, .slice xb.ea xb.en xb.ec, .slice xb.ra xb.rn xb.rc] 38)) n0 MA yp) := HOP.out.later kk
            have HNP' : Hid (NFB (e2.alloc (.cells #[.int .i64 xa.S, .slice xa.ea xa.en xa.ec, .slice xa.ra xa.rn xa.rc, .int .i64 xb.S, .slice xb.ea xb.en xb.ec, .slice xb.ra xb.rn xb.rc] 38)) PP yp) := HNP.out.later kk
            clear HN0 HB HIN HNT HNA HNB HNX HNY HNW HCX HCY HCW HAE HAU HBE HBU HOP HNP
            have HN0 := HN0'
            have HB := HB'
            have HIN := HIN'
            have HNT := HNT'
            have HNA := HNA'
            have HNB := HNB'
            have HNX := HNX'
            have HNY := HNY'
            have HNW := HNW'
            have HCX := HCX'
            have HCY := HCY'
            have HCW := HCW'
            have HAE := HAE'
            have HAU := HAU'
            have HBE := HBE'
            have HBU := HBU'
            have HOP := HOP'
            have HNP := HNP'
            clear HN0' HB' HIN' HNT' HNA' HNB' HNX' HNY' HNW' HCX' HCY' HCW' HAE' HAU' HBE' HBU' HOP' HNP'
            have HC : Hid (Calls Try.prog 21 #[.slice (some ⟨e2.heap.size, 0, none⟩) 2 2] (e2.alloc (.cells #[.int .i64 xa.S, .slice xa.ea xa.en xa.ec, .slice xa.ra xa.rn xa.rc, .int .i64 xb.S, .slice xb.ea xb.en xb.ec, .slice xb.ra xb.rn xb.rc] 38)) _) := uni_any HMA.out.1 HMA.out.2 HMB.out.1 HMB.out.2 (HCX.out.ma.keep (fun _ _ _ => trivial) (fun _ _ _ => rfl)) (HCY.out.ma.keep (fun _ _ _ => trivial) (fun _ _ _ => rfl)) (heap_alloc_new e2 _)
            clear kk
            go_wp2_with fail
            refine HC.out.mono ?_
            rintro e e4 ⟨kc, yh, ek, rfl, hm⟩
            clear HC
            rw [HED.out] at hm
            obtain ⟨e3, hq⟩ : ∃ q, e2.alloc (.cells #[.int .i64 xa.S, .slice xa.ea xa.en xa.ec, .slice xa.ra xa.rn xa.rc, .int .i64 xb.S, .slice xb.ea xb.en xb.ec, .slice xb.ra xb.rn xb.rc] 38) = q := ⟨_, rfl⟩
            rw [hq] at kc hm HN0 HB HIN HNT HNA HNB HNX HNY HNW HCX HCY HCW HAE HAU HBE HBU HOP HNP
            have HOH : Hid (Own e4 n0 MD yh) := Own.low hm HN0.out
            clear hq hm z0 z1 z2 z3 z4 z5
            have HN0' : Hid (n0 ≤ e4.heap.size) := Nat.le_trans HN0.out kc.size
            have HB' : Hid (Below w.heap.size w e4) := below_step HB.out kc
            have HIN' : Hid (InAt e4 t x) := HIN.out.later kc
            have HNT' : Hid (NB e4 TT x) := HNT.out.later kc
            have HNA' : Hid (NFB e4 A ya) := HNA.out.later kc
            have HNB' : Hid (NFB e4 B yb) := HNB.out.later kc
            have HNX' : Hid (NFB e4 X xa) := HNX.out.later kc
            have HNY' : Hid (NFB e4 Y xb) := HNY.out.later kc
            have HNW' : Hid (NFB e4 WW xw) := HNW.out.later kc
            have HCX' : Hid (Cop (fun b => ¬ K.D b) e4 MA xa) := HCX.out.later kc
            have HCY' : Hid (Cop (fun b => ¬ K.D b) e4 MB xb) := HCY.out.later kc
            have HCW' : Hid (Cop (fun b => ¬ K.D b) e4 MD xw) := HCW.out.later kc
            have HAE' : Hid (Alk 57 7 e4 (egs 0) ya.en (eV ya)) := HAE.out.later kc
            have HAU' : Hid (Alk 44 1 e4 (wgs 0) ya.rn (uV ya)) := HAU.out.later kc
            have HBE' : Hid (Alk 57 7 e4 (egs 1) yb.en (eV yb)) := HBE.out.later kc
            have HBU' : Hid (Alk 44 1 e4 (wgs 1) yb.rn (uV yb)) := HBU.out.later kc
            have HOP' : Hid (Own e4 n0 MA yp) := HOP.out.later kc
            have HNP' : Hid (NFB e4 PP yp) := HNP.out.later kc
            clear HN0 HB HIN HNT HNA HNB HNX HNY HNW HCX HCY HCW HAE HAU HBE HBU HOP HNP
            have HN0 := HN0'
            have HB := HB'
            have HIN := HIN'
            have HNT := HNT'
            have HNA := HNA'
            have HNB := HNB'
            have HNX := HNX'
            have HNY := HNY'
            have HNW := HNW'
            have HCX := HCX'
            have HCY := HCY'
            have HCW := HCW'
            have HAE := HAE'
            have HAU := HAU'
            have HBE := HBE'
            have HBU := HBU'
            have HOP := HOP'
            have HNP := HNP'
            clear HN0' HB' HIN' HNT' HNA' HNB' HNX' HNY' HNW' HCX' HCY' HCW' HAE' HAU' HBE' HBU' HOP' HNP'
            clear kc
            have kk : Below e4.heap.size e4 (e4.alloc (.cells #[.int .i64 yh.S, .slice yh.ea yh.en yh.ec, .slice yh.ra yh.rn yh.rc] 38)) := (Below.refl _ _).alloc (Nat.le_refl _) _
            have HSz : Hid (e4.heap.size < (e4.alloc (.cells #[.int .i64 yh.S, .slice yh.ea yh.en yh.ec, .slice yh.ra yh.rn yh.rc] 38)).heap.size) := by show _ < _; simp
            have HN0' : Hid (n0 ≤ (e4.alloc (.cells #[.int .i64 yh.S, .slice yh.ea yh.en yh.ec, .slice yh.ra yh.rn yh.rc] 38)).heap.size) := Nat.le_trans HN0.out kk.size
            have HB' : Hid (Below w.heap.size w (e4.alloc (.cells #[.int .i64 yh.S, .slice yh.ea yh.en yh.ec, .slice yh.ra yh.rn yh.rc] 38))) := below_step HB.out kk
            have HIN' : Hid (InAt (e4.alloc (.cells #[.int .i64 yh.S, .slice yh.ea yh.en yh.ec, .slice yh.ra yh.rn yh.rc] 38)) t x) := HIN.out.later kk
            have HNT' : Hid (NB (e4.alloc (.cells #[.int .i64 yh.S, .slice yh.ea yh.en yh.ec, .slice yh.ra yh.rn yh.rc] 38)) TT x) := HNT.out.later kk
            have HNA' : Hid (NFB (e4.alloc (.cells #[.int .i64 yh.S, .slice yh.ea yh.en yh.ec, .slice yh.ra yh.rn yh.rc] 38)) A ya) := HNA.out.later kk
            have HNB' : Hid (NFB (e4.alloc (.cells #[.int .i64 yh.S, .slice yh.ea yh.en yh.ec, .slice yh.ra yh.rn yh.rc] 38)) B yb) := HNB.out.later kk
            have HNX' : Hid (NFB (e4.alloc (.cells #[.int .i64 yh.S, .slice yh.ea yh.en yh.ec, .slice yh.ra yh.rn yh.rc] 38)) X xa) := HNX.out.later kk
            have HNY' : Hid (NFB (e4.alloc (.cells #[.int .i64 yh.S, .slice yh.ea yh.en yh.ec, .slice yh.ra yh.rn yh.rc] 38)) Y xb) := HNY.out.later kk
            have HNW' : Hid (NFB (e4.alloc (.cells #[.int .i64 yh.S, .slice yh.ea yh.en yh.ec, .slice yh.ra yh.rn yh.rc] 38)) WW xw) := HNW.out.later kk
            have HCX' : Hid (Cop (fun b => ¬ K.D b) (e4.alloc (.cells #[.int .i64 yh.S, .slice yh.ea yh.en yh.ec, .slice yh.ra yh.rn yh.rc] 38)) MA xa) := HCX.out.later kk
            have HCY' : Hid (Cop (fun b => ¬ K.D b) (e4.alloc (.cells #[.int .i64 yh.S, .slice yh.ea yh.en yh.ec, .slice yh.ra yh.rn yh.rc] 38)) MB xb) := HCY.out.later kk
            have HCW' : Hid (Cop (fun b => ¬ K.D b) (e4.alloc (.cells #[.int .i64 yh.S, .slice yh.ea yh.en yh.ec, .slice yh.ra yh.rn yh.rc] 38)) MD xw) := HCW.out.later kk
            have HAE' : Hid (Alk 57 7 (e4.alloc (.cells #[.int .i64 yh.S, .slice yh.ea yh.en yh.ec, .slice yh.ra yh.rn yh.rc] 38)) (egs 0) ya.en (eV ya)) := HAE.out.later kk
            have HAU' : Hid (Alk 44 1 (e4.alloc (.cells #[.int .i64 yh.S, .slice yh.ea yh.en yh.ec, .slice yh.ra yh.rn yh.rc] 38)) (wgs 0) ya.rn (uV ya)) := HAU.out.later kk
            have HBE' : Hid (Alk 57 7 (e4.alloc (.cells #[.int .i64 yh.S, .slice yh.ea yh.en yh.ec, .slice yh.ra yh.rn yh.rc] 38)) (egs 1) yb.en (eV yb)) := HBE.out.later kk
            have HBU' : Hid (Alk 44 1 (e4.alloc (.cells #[.int .i64 yh.S, .slice yh.ea yh.en yh.ec, .slice yh.ra yh.rn yh.rc] 38)) (wgs 1) yb.rn (uV yb)) := HBU.out.later kk
            have HOP' : Hid (Own (e4.alloc (.cells #[.int .i64 yh.S, .slice yh.ea yh.en yh.ec, .slice yh.ra yh.rn yh.rc] 38)) n0 MA yp) := HOP.out.later kk
            have HNP' : Hid (NFB (e4.alloc (.cells #[.int .i64 yh.S, .slice yh.ea yh.en yh.ec, .slice yh.ra yh.rn yh.rc] 38)) PP yp) := HNP.out.later kk
            have HOH' : Hid (Own (e4.alloc (.cells #[.int .i64 yh.S, .slice yh.ea yh.en yh.ec, .slice yh.ra yh.rn yh.rc] 38)) n0 MD yh) := HOH.out.later kk
            clear HN0 HB HIN HNT HNA HNB HNX HNY HNW HCX HCY HCW HAE HAU HBE HBU HOP HNP HOH
            have HN0 := HN0'
            have HB := HB'
            have HIN := HIN'
            have HNT := HNT'
            have HNA := HNA'
            have HNB := HNB'
            have HNX := HNX'
            have HNY := HNY'
            have HNW := HNW'
            have HCX := HCX'
            have HCY := HCY'
            have HCW := HCW'
            have HAE := HAE'
            have HAU := HAU'
            have HBE := HBE'
            have HBU := HBU'
            have HOP := HOP'
            have HNP := HNP'
            have HOH := HOH'
            clear HN0' HB' HIN' HNT' HNA' HNB' HNX' HNY' HNW' HCX' HCY' HCW' HAE' HAU' HBE' HBU' HOP' HNP' HOH'
            have HNH : Hid (NFB (e4.alloc (.cells #[.int .i64 yh.S, .slice yh.ea yh.en yh.ec, .slice yh.ra yh.rn yh.rc] 38)) e4.heap.size yh) := nfb_new e4 yh
            unfold Nf.val
            go_upto_region 65 with fail
            obtain ⟨e5, hq⟩ : ∃ q, e4.alloc (.cells #[.int .i64 yh.S, .slice yh.ea yh.en yh.ec, .slice yh.ra yh.rn yh.rc] 38) = q := ⟨_, rfl⟩
            obtain ⟨HH, hb⟩ : ∃ q, e4.heap.size = q := ⟨_, rfl⟩
            rw [hq] at HSz HN0 HB HIN HNT HNA HNB HNX HNY HNW HCX HCY HCW HAE HAU HBE HBU HOP HNP HOH HNH ⊢
            rw [hb] at HNH ⊢
            have HZe5 : Hid (e4.heap.size < e5.heap.size) := HSz
            clear hq hb kk HSz
            clear HIN HNT
            obtain ⟨b0, b1, b2⟩ := HNA.out.cells
            obtain ⟨d0, d1, d2⟩ := HNX.out.cells
            go_upto_region 66 with (first | (refine wpList_copy_edges rfl _ _ rfl ya.ea xa.ea ya.en xa.en ya.ec xa.ec rfl rfl (by rw [HCX.out.n]; exact HLN.out.1.symm) MA.es HLN.out.1 HAE.out HCX.out.ma.e ?_; intro e6 hg he; have HG : Hid (e5.grownBy e6 (eV ya).ownBlock) := hg; have HYA := he; clear hg he) | fail)
            clear b0 b1 b2 d0 d1 d2
            have hg := HG.out
            have hty : ∀ k, (eV ya).ownBlock = some k → TyB e5 57 k := fun k e => (HAE.out.blk k e).2
            have HN0' : Hid (n0 ≤ e6.heap.size) := Nat.le_trans HN0.out hg.size
            have HB' : Hid (Below w.heap.size w e6) := HB.out.grown hg HB.out.size (fun k e => (HDA.out k e).2.1)
            have HNA' : Hid (NFB e6 A ya) := HNA.out.grown hg hty (by decide)
            have HNB' : Hid (NFB e6 B yb) := HNB.out.grown hg hty (by decide)
            have HNX' : Hid (NFB e6 X xa) := HNX.out.grown hg hty (by decide)
            have HNY' : Hid (NFB e6 Y xb) := HNY.out.grown hg hty (by decide)
            have HNW' : Hid (NFB e6 WW xw) := HNW.out.grown hg hty (by decide)
            have HCX' : Hid (Cop (fun b => ¬ K.D b) e6 MA xa) := HCX.out.past hg (fun b e => (HDA.out b e).1)
            have HCY' : Hid (Cop (fun b => ¬ K.D b) e6 MB xb) := HCY.out.past hg (fun b e => (HDA.out b e).1)
            have HCW' : Hid (Cop (fun b => ¬ K.D b) e6 MD xw) := HCW.out.past hg (fun b e => (HDA.out b e).1)
            have HAU' : Hid (Alk 44 1 e6 (wgs 0) ya.rn (uV ya)) := HAU.out.past hg HSEU.out
            have HBE' : Hid (Alk 57 7 e6 (egs 1) yb.en (eV yb)) := HBE.out.past hg HSAB.out
            have HBU' : Hid (Alk 44 1 e6 (wgs 1) yb.rn (uV yb)) := HBU.out.past hg HSEV.out
            have HOP' : Hid (Own e6 n0 MA yp) := HOP.out.past hg (fun b e => (HDA.out b e).2.2)
            have HNP' : Hid (NFB e6 PP yp) := HNP.out.grown hg hty (by decide)
            have HOH' : Hid (Own e6 n0 MD yh) := HOH.out.past hg (fun b e => (HDA.out b e).2.2)
            have HNH' : Hid (NFB e6 HH yh) := HNH.out.grown hg hty (by decide)
            clear hg hty HG HN0 HB HNA HNB HNX HNY HNW HCX HCY HCW HAU HBE HBU HOP HNP HOH HNH HAE
            have HN0 := HN0'
            have HB := HB'
            have HNA := HNA'
            have HNB := HNB'
            have HNX := HNX'
            have HNY := HNY'
            have HNW := HNW'
            have HCX := HCX'
            have HCY := HCY'
            have HCW := HCW'
            have HAU := HAU'
            have HBE := HBE'
            have HBU := HBU'
            have HOP := HOP'
            have HNP := HNP'
            have HOH := HOH'
            have HNH := HNH'
            clear HN0' HB' HNA' HNB' HNX' HNY' HNW' HCX' HCY' HCW' HAU' HBE' HBU' HOP' HNP' HOH' HNH'
            have HYA : Hid (EAt (fun b => (eV ya).ownBlock = some b) e6 ya.ea MA.es) := HYA
            obtain ⟨b0, b1, b2⟩ := HNA.out.cells
            obtain ⟨d0, d1, d2⟩ := HNX.out.cells
            go_upto_region 67 with (first | (refine wpList_copy_words rfl _ _ rfl ya.ra xa.ra ya.rn xa.rn ya.rc xa.rc rfl rfl (by rw [HCX.out.r]; exact HLN.out.2.1.symm) MA.rs HLN.out.2.1 HAU.out HCX.out.ma.u ?_; intro e7 hg he; have HG : Hid (e6.grownBy e7 (uV ya).ownBlock) := hg; have HYU := he; clear hg he) | fail)
            clear b0 b1 b2 d0 d1 d2
            have hg := HG.out
            have hty : ∀ k, (uV ya).ownBlock = some k → TyB e6 44 k := fun k e => (HAU.out.blk k e).2
            have HN0' : Hid (n0 ≤ e7.heap.size) := Nat.le_trans HN0.out hg.size
            have HB' : Hid (Below w.heap.size w e7) := HB.out.grown hg HB.out.size (fun k e => (HDU.out k e).2.1)
            have HNA' : Hid (NFB e7 A ya) := HNA.out.grown hg hty (by decide)
            have HNB' : Hid (NFB e7 B yb) := HNB.out.grown hg hty (by decide)
            have HNX' : Hid (NFB e7 X xa) := HNX.out.grown hg hty (by decide)
            have HNY' : Hid (NFB e7 Y xb) := HNY.out.grown hg hty (by decide)
            have HNW' : Hid (NFB e7 WW xw) := HNW.out.grown hg hty (by decide)
            have HCX' : Hid (Cop (fun b => ¬ K.D b) e7 MA xa) := HCX.out.past hg (fun b e => (HDU.out b e).1)
            have HCY' : Hid (Cop (fun b => ¬ K.D b) e7 MB xb) := HCY.out.past hg (fun b e => (HDU.out b e).1)
            have HCW' : Hid (Cop (fun b => ¬ K.D b) e7 MD xw) := HCW.out.past hg (fun b e => (HDU.out b e).1)
            have HBE' : Hid (Alk 57 7 e7 (egs 1) yb.en (eV yb)) := HBE.out.past hg HSBU.out
            have HBU' : Hid (Alk 44 1 e7 (wgs 1) yb.rn (uV yb)) := HBU.out.past hg HSUV.out
            have HOP' : Hid (Own e7 n0 MA yp) := HOP.out.past hg (fun b e => (HDU.out b e).2.2)
            have HNP' : Hid (NFB e7 PP yp) := HNP.out.grown hg hty (by decide)
            have HOH' : Hid (Own e7 n0 MD yh) := HOH.out.past hg (fun b e => (HDU.out b e).2.2)
            have HNH' : Hid (NFB e7 HH yh) := HNH.out.grown hg hty (by decide)
            have HYA' : Hid (EAt (fun b => (eV ya).ownBlock = some b) e7 ya.ea MA.es) := HYA.out.past hg HSEUr.out
            clear hg hty HG HN0 HB HNA HNB HNX HNY HNW HCX HCY HCW HBE HBU HOP HNP HOH HNH HYA HAU
            have HN0 := HN0'
            have HB := HB'
            have HNA := HNA'
            have HNB := HNB'
            have HNX := HNX'
            have HNY := HNY'
            have HNW := HNW'
            have HCX := HCX'
            have HCY := HCY'
            have HCW := HCW'
            have HBE := HBE'
            have HBU := HBU'
            have HOP := HOP'
            have HNP := HNP'
            have HOH := HOH'
            have HNH := HNH'
            have HYA := HYA'
            clear HN0' HB' HNA' HNB' HNX' HNY' HNW' HCX' HCY' HCW' HBE' HBU' HOP' HNP' HOH' HNH' HYA'
            have HYU : Hid (UAt (fun b => (uV ya).ownBlock = some b) e7 ya.ra MA.rs) := HYU
            obtain ⟨b0, b1, b2⟩ := HNB.out.cells
            obtain ⟨d0, d1, d2⟩ := HNY.out.cells
            go_upto_region 68 with (first | (refine wpList_copy_edges rfl _ _ rfl yb.ea xb.ea yb.en xb.en yb.ec xb.ec rfl rfl (by rw [HCY.out.n]; exact HLN.out.2.2.2.1.symm) MB.es HLN.out.2.2.2.1 HBE.out HCY.out.ma.e ?_; intro e8 hg he; have HG : Hid (e7.grownBy e8 (eV yb).ownBlock) := hg; have HZA := he; clear hg he) | fail)
            clear b0 b1 b2 d0 d1 d2
            have hg := HG.out
            have hty : ∀ k, (eV yb).ownBlock = some k → TyB e7 57 k := fun k e => (HBE.out.blk k e).2
            have HN0' : Hid (n0 ≤ e8.heap.size) := Nat.le_trans HN0.out hg.size
            have HB' : Hid (Below w.heap.size w e8) := HB.out.grown hg HB.out.size (fun k e => (HDB.out k e).2.1)
            have HNA' : Hid (NFB e8 A ya) := HNA.out.grown hg hty (by decide)
            have HNB' : Hid (NFB e8 B yb) := HNB.out.grown hg hty (by decide)
            have HNX' : Hid (NFB e8 X xa) := HNX.out.grown hg hty (by decide)
            have HNY' : Hid (NFB e8 Y xb) := HNY.out.grown hg hty (by decide)
            have HNW' : Hid (NFB e8 WW xw) := HNW.out.grown hg hty (by decide)
            have HCX' : Hid (Cop (fun b => ¬ K.D b) e8 MA xa) := HCX.out.past hg (fun b e => (HDB.out b e).1)
            have HCY' : Hid (Cop (fun b => ¬ K.D b) e8 MB xb) := HCY.out.past hg (fun b e => (HDB.out b e).1)
            have HCW' : Hid (Cop (fun b => ¬ K.D b) e8 MD xw) := HCW.out.past hg (fun b e => (HDB.out b e).1)
            have HBU' : Hid (Alk 44 1 e8 (wgs 1) yb.rn (uV yb)) := HBU.out.past hg HSBV.out
            have HOP' : Hid (Own e8 n0 MA yp) := HOP.out.past hg (fun b e => (HDB.out b e).2.2)
            have HNP' : Hid (NFB e8 PP yp) := HNP.out.grown hg hty (by decide)
            have HOH' : Hid (Own e8 n0 MD yh) := HOH.out.past hg (fun b e => (HDB.out b e).2.2)
            have HNH' : Hid (NFB e8 HH yh) := HNH.out.grown hg hty (by decide)
            have HYA' : Hid (EAt (fun b => (eV ya).ownBlock = some b) e8 ya.ea MA.es) := HYA.out.past hg HSABr.out
            have HYU' : Hid (UAt (fun b => (uV ya).ownBlock = some b) e8 ya.ra MA.rs) := HYU.out.past hg HSBUr.out
            clear hg hty HG HN0 HB HNA HNB HNX HNY HNW HCX HCY HCW HBU HOP HNP HOH HNH HYA HYU HBE
            have HN0 := HN0'
            have HB := HB'
            have HNA := HNA'
            have HNB := HNB'
            have HNX := HNX'
            have HNY := HNY'
            have HNW := HNW'
            have HCX := HCX'
            have HCY := HCY'
            have HCW := HCW'
            have HBU := HBU'
            have HOP := HOP'
            have HNP := HNP'
            have HOH := HOH'
            have HNH := HNH'
            have HYA := HYA'
            have HYU := HYU'
            clear HN0' HB' HNA' HNB' HNX' HNY' HNW' HCX' HCY' HCW' HBU' HOP' HNP' HOH' HNH' HYA' HYU'
            have HZA : Hid (EAt (fun b => (eV yb).ownBlock = some b) e8 yb.ea MB.es) := HZA
            obtain ⟨b0, b1, b2⟩ := HNB.out.cells
            obtain ⟨d0, d1, d2⟩ := HNY.out.cells
            go_upto_region 69 with (first | (refine wpList_copy_words rfl _ _ rfl yb.ra xb.ra yb.rn xb.rn yb.rc xb.rc rfl rfl (by rw [HCY.out.r]; exact HLN.out.2.2.2.2.1.symm) MB.rs HLN.out.2.2.2.2.1 HBU.out HCY.out.ma.u ?_; intro e9 hg he; have HG : Hid (e8.grownBy e9 (uV yb).ownBlock) := hg; have HZU := he; clear hg he) | fail)
            clear b0 b1 b2 d0 d1 d2
            have hg := HG.out
            have hty : ∀ k, (uV yb).ownBlock = some k → TyB e8 44 k := fun k e => (HBU.out.blk k e).2
            have HN0' : Hid (n0 ≤ e9.heap.size) := Nat.le_trans HN0.out hg.size
            have HB' : Hid (Below w.heap.size w e9) := HB.out.grown hg HB.out.size (fun k e => (HDV.out k e).2.1)
            have HNA' : Hid (NFB e9 A ya) := HNA.out.grown hg hty (by decide)
            have HNB' : Hid (NFB e9 B yb) := HNB.out.grown hg hty (by decide)
            have HNX' : Hid (NFB e9 X xa) := HNX.out.grown hg hty (by decide)
            have HNY' : Hid (NFB e9 Y xb) := HNY.out.grown hg hty (by decide)
            have HNW' : Hid (NFB e9 WW xw) := HNW.out.grown hg hty (by decide)
            have HCX' : Hid (Cop (fun b => ¬ K.D b) e9 MA xa) := HCX.out.past hg (fun b e => (HDV.out b e).1)
            have HCY' : Hid (Cop (fun b => ¬ K.D b) e9 MB xb) := HCY.out.past hg (fun b e => (HDV.out b e).1)
            have HCW' : Hid (Cop (fun b => ¬ K.D b) e9 MD xw) := HCW.out.past hg (fun b e => (HDV.out b e).1)
            have HOP' : Hid (Own e9 n0 MA yp) := HOP.out.past hg (fun b e => (HDV.out b e).2.2)
            have HNP' : Hid (NFB e9 PP yp) := HNP.out.grown hg hty (by decide)
            have HOH' : Hid (Own e9 n0 MD yh) := HOH.out.past hg (fun b e => (HDV.out b e).2.2)
            have HNH' : Hid (NFB e9 HH yh) := HNH.out.grown hg hty (by decide)
            have HYA' : Hid (EAt (fun b => (eV ya).ownBlock = some b) e9 ya.ea MA.es) := HYA.out.past hg HSEVr.out
            have HYU' : Hid (UAt (fun b => (uV ya).ownBlock = some b) e9 ya.ra MA.rs) := HYU.out.past hg HSUVr.out
            have HZA' : Hid (EAt (fun b => (eV yb).ownBlock = some b) e9 yb.ea MB.es) := HZA.out.past hg HSBVr.out
            clear hg hty HG HN0 HB HNA HNB HNX HNY HNW HCX HCY HCW HOP HNP HOH HNH HYA HYU HZA HBU
            have HN0 := HN0'
            have HB := HB'
            have HNA := HNA'
            have HNB := HNB'
            have HNX := HNX'
            have HNY := HNY'
            have HNW := HNW'
            have HCX := HCX'
            have HCY := HCY'
            have HCW := HCW'
            have HOP := HOP'
            have HNP := HNP'
            have HOH := HOH'
            have HNH := HNH'
            have HYA := HYA'
            have HYU := HYU'
            have HZA := HZA'
            clear HN0' HB' HNA' HNB' HNX' HNY' HNW' HCX' HCY' HCW' HOP' HNP' HOH' HNH' HYA' HYU' HZA'
            have HZU : Hid (UAt (fun b => (uV yb).ownBlock = some b) e9 yb.ra MB.rs) := HZU
            have HMY : Hid (MaAt (fun _ => True) e9 MA ya) := ⟨HLN.out.2.2.1, HLN.out.1, HLN.out.2.1, HYA.out.keep (fun _ _ _ => trivial) (fun _ _ _ => rfl), HYU.out.keep (fun _ _ _ => trivial) (fun _ _ _ => rfl)⟩
            have HMZ : Hid (MaAt (fun _ => True) e9 MB yb) := ⟨HLN.out.2.2.2.2.2, HLN.out.2.2.2.1, HLN.out.2.2.2.2.1, HZA.out.keep (fun _ _ _ => trivial) (fun _ _ _ => rfl), HZU.out.keep (fun _ _ _ => trivial) (fun _ _ _ => rfl)⟩
            clear HYA HYU HZA HZU
            obtain ⟨z0, z1, z2⟩ := HNA.out.cells
            obtain ⟨z3, z4, z5⟩ := HNB.out.cells
            have kk : Below e9.heap.size e9 (e9.alloc (.cells #[.int .i64 ya.S, .slice ya.ea ya.en ya.ec, .slice ya.ra ya.rn ya.rc, .int .i64 yb.S, .slice yb.ea yb.en yb.ec, .slice yb.ra yb.rn yb.rc] 38)) := (Below.refl _ _).alloc (Nat.le_refl _) _
            have HN0' : Hid (n0 ≤ (e9.alloc (.cells #[.int .i64 ya.S, .slice ya.ea ya.en ya.ec, .slice ya.ra ya.rn ya.rc, .int .i64 yb.S, .slice yb.ea yb.en yb.ec, .slice yb.ra yb.rn yb.rc] 38)).heap.size) := Nat.le_trans HN0.out kk.size
            have HB' : Hid (Below w.heap.size w (e9.alloc (.cells #[.int .i64 ya.S, .slice ya.ea ya.en ya.ec, .slice ya.ra ya.rn ya.rc, .int .i64 yb.S, .slice yb.ea yb.en yb.ec, .slice yb.ra yb.rn yb.rc] 38))) := below_step HB.out kk
            have HNA' : Hid (NFB (e9.alloc (.cells #[.int .i64 ya.S, .slice ya.ea ya.en ya.ec, .slice ya.ra ya.rn ya.rc, .int .i64 yb.S, .slice yb.ea yb.en yb.ec, .slice yb.ra yb.rn yb.rc] 38)) A ya) := HNA.out.later kk
            have HNB' : Hid (NFB (e9.alloc (.cells #[.int .i64 ya.S, .slice ya.ea ya.en ya.ec, .slice ya.ra ya.rn ya.rc, .int .i64 yb.S, .slice yb.ea yb.en yb.ec, .slice yb.ra yb.rn yb.rc] 38)) B yb) := HNB.out.later kk
            have HNX' : Hid (NFB (e9.alloc (.cells #[.int .i64 ya.S, .slice ya.ea ya.en ya.ec, .slice ya.ra ya.rn ya.rc, .int .i64 yb.S, .slice yb.ea yb.en yb.ec, .slice yb.ra yb.rn yb.rc] 38)) X xa) := HNX.out.later kk
            have HNY' : Hid (NFB (e9.alloc (.cells #[.int .i64 ya.S, .slice ya.ea ya.en ya.ec, .slice ya.ra ya.rn ya.rc, .int .i64 yb.S, .slice yb.ea yb.en yb.ec, .slice yb.ra yb.rn yb.rc] 38)) Y xb) := HNY.out.later kk
            have HNW' : Hid (NFB (e9.alloc (.cells #[.int .i64 ya.S, .slice ya.ea ya.en ya.ec, .slice ya.ra ya.rn ya.rc, .int .i64 yb.S, .slice yb.ea yb.en yb.ec, .slice yb.ra yb.rn yb.rc] 38)) WW xw) := HNW.out.later kk
            have HCX' : Hid (Cop (fun b => ¬ K.D b) (e9.alloc (.cells #[.int .i64 ya.S, .slice ya.ea ya.en ya.ec, .slice ya.ra ya.rn ya.rc, .int .i64 yb.S, .slice yb.ea yb.en yb.ec, .slice yb.ra yb.rn yb.rc] 38)) MA xa) := HCX.out.later kk
            have HCY' : Hid (Cop (fun b => ¬ K.D b) (e9.alloc (.cells #[.int .i64 ya.S, .slice ya.ea ya.en ya.ec, .slice ya.ra ya.rn ya.rc, .int .i64 yb.S, .slice yb.ea yb.en yb.ec, .slice yb.ra yb.rn yb.rc] 38)) MB xb) := HCY.out.later kk
            have HCW' : Hid (Cop (fun b => ¬ K.D b) (e9.alloc (.cells #[.int .i64 ya.S, .slice ya.ea ya.en ya.ec, .slice ya.ra ya.rn ya.rc, .int .i64 yb.S, .slice yb.ea yb.en yb.ec, .slice yb.ra yb.rn yb.rc] 38)) MD xw) := HCW.out.later kk
            have HOP' : Hid (Own (e9.alloc (.cells #[.int .i64 ya.S, .slice ya.ea ya.en ya.ec, .slice ya.ra ya.rn ya.rc, .int .i64 yb.S, .slice yb.ea yb.en yb.ec, .slice yb.ra yb.rn yb.rc] 38)) n0 MA yp) := HOP.out.later kk
            have HNP' : Hid (NFB (e9.alloc (.cells #[.int .i64 ya.S, .slice ya.ea ya.en ya.ec, .slice ya.ra ya.rn ya.rc, .int .i64 yb.S, .slice yb.ea yb.en yb.ec, .slice yb.ra yb.rn yb.rc] 38)) PP yp) := HNP.out.later kk
            have HOH' : Hid (Own (e9.alloc (.cells #[.int .i64 ya.S, .slice ya.ea ya.en ya.ec, .slice ya.ra ya.rn ya.rc, .int .i64 yb.S, .slice yb.ea yb.en yb.ec, .slice yb.ra yb.rn yb.rc] 38)) n0 MD yh) := HOH.out.later kk
            have HNH' : Hid (NFB (e9.alloc (.cells #[.int .i64 ya.S, .slice ya.ea ya.en ya.ec, .slice ya.ra ya.rn ya.rc, .int .i64 yb.S, .slice yb.ea yb.en yb.ec, .slice yb.ra yb.rn yb.rc] 38)) HH yh) := HNH.out.later kk
            have HMY' : Hid (MaAt (fun _ => True) (e9.alloc (.cells #[.int .i64 ya.S, .slice ya.ea ya.en ya.ec, .slice ya.ra ya.rn ya.rc, .int .i64 yb.S, .slice yb.ea yb.en yb.ec, .slice yb.ra yb.rn yb.rc] 38)) MA ya) := HMY.out.later kk
            have HMZ' : Hid (MaAt (fun _ => True) (e9.alloc (.cells #[.int .i64 ya.S, .slice ya.ea ya.en ya.ec, .slice ya.ra ya.rn ya.rc, .int .i64 yb.S, .slice yb.ea yb.en yb.ec, .slice yb.ra yb.rn yb.rc] 38)) MB yb) := HMZ.out.later kk
            clear HN0 HB HNA HNB HNX HNY HNW HCX HCY HCW HOP HNP HOH HNH HMY HMZ
            have HN0 := HN0'
            have HB := HB'
            have HNA := HNA'
            have HNB := HNB'
            have HNX := HNX'
            have HNY := HNY'
            have HNW := HNW'
            have HCX := HCX'
            have HCY := HCY'
            have HCW := HCW'
            have HOP := HOP'
            have HNP := HNP'
            have HOH := HOH'
            have HNH := HNH'
            have HMY := HMY'
            have HMZ := HMZ'
            clear HN0' HB' HNA' HNB' HNX' HNY' HNW' HCX' HCY' HCW' HOP' HNP' HOH' HNH' HMY' HMZ'
            have HC : Hid (Calls Try.prog 21 #[.slice (some ⟨e9.heap.size, 0, none⟩) 2 2] (e9.alloc (.cells #[.int .i64 ya.S, .slice ya.ea ya.en ya.ec, .slice ya.ra ya.rn ya.rc, .int .i64 yb.S, .slice yb.ea yb.en yb.ec, .slice yb.ra yb.rn yb.rc] 38)) _) := uni_any HMA.out.1 HMA.out.2 HMB.out.1 HMB.out.2 HMY.out HMZ.out (heap_alloc_new e9 _)
            clear kk
            go_wp2_with fail
            refine HC.out.mono ?_
            rintro e e11 ⟨kc, yk, ek, rfl, hm⟩
            clear HC
            rw [HED.out] at hm
            obtain ⟨e10, hq⟩ : ∃ q, e9.alloc (.cells #[.int .i64 ya.S, .slice ya.ea ya.en ya.ec, .slice ya.ra ya.rn ya.rc, .int .i64 yb.S, .slice yb.ea yb.en yb.ec, .slice yb.ra yb.rn yb.rc] 38) = q := ⟨_, rfl⟩
            rw [hq] at kc hm HN0 HB HNA HNB HNX HNY HNW HCX HCY HCW HOP HNP HOH HNH HMY HMZ
            have HOK3 : Hid (Own e11 n0 MD yk) := Own.low hm HN0.out
            clear hq hm z0 z1 z2 z3 z4 z5
            have HN0' : Hid (n0 ≤ e11.heap.size) := Nat.le_trans HN0.out kc.size
            have HB' : Hid (Below w.heap.size w e11) := below_step HB.out kc
            have HNA' : Hid (NFB e11 A ya) := HNA.out.later kc
            have HNB' : Hid (NFB e11 B yb) := HNB.out.later kc
            have HNX' : Hid (NFB e11 X xa) := HNX.out.later kc
            have HNY' : Hid (NFB e11 Y xb) := HNY.out.later kc
            have HNW' : Hid (NFB e11 WW xw) := HNW.out.later kc
            have HCX' : Hid (Cop (fun b => ¬ K.D b) e11 MA xa) := HCX.out.later kc
            have HCY' : Hid (Cop (fun b => ¬ K.D b) e11 MB xb) := HCY.out.later kc
            have HCW' : Hid (Cop (fun b => ¬ K.D b) e11 MD xw) := HCW.out.later kc
            have HOP' : Hid (Own e11 n0 MA yp) := HOP.out.later kc
            have HNP' : Hid (NFB e11 PP yp) := HNP.out.later kc
            have HOH' : Hid (Own e11 n0 MD yh) := HOH.out.later kc
            have HNH' : Hid (NFB e11 HH yh) := HNH.out.later kc
            have HMY' : Hid (MaAt (fun _ => True) e11 MA ya) := HMY.out.later kc
            have HMZ' : Hid (MaAt (fun _ => True) e11 MB yb) := HMZ.out.later kc
            clear HN0 HB HNA HNB HNX HNY HNW HCX HCY HCW HOP HNP HOH HNH HMY HMZ
            have HN0 := HN0'
            have HB := HB'
            have HNA := HNA'
            have HNB := HNB'
            have HNX := HNX'
            have HNY := HNY'
            have HNW := HNW'
            have HCX := HCX'
            have HCY := HCY'
            have HCW := HCW'
            have HOP := HOP'
            have HNP := HNP'
            have HOH := HOH'
            have HNH := HNH'
            have HMY := HMY'
            have HMZ := HMZ'
            clear HN0' HB' HNA' HNB' HNX' HNY' HNW' HCX' HCY' HCW' HOP' HNP' HOH' HNH' HMY' HMZ'
            clear kc
            have kk : Below e11.heap.size e11 (e11.alloc (.cells #[.int .i64 yk.S, .slice yk.ea yk.en yk.ec, .slice yk.ra yk.rn yk.rc] 38)) := (Below.refl _ _).alloc (Nat.le_refl _) _
            have HSz : Hid (e11.heap.size < (e11.alloc (.cells #[.int .i64 yk.S, .slice yk.ea yk.en yk.ec, .slice yk.ra yk.rn yk.rc] 38)).heap.size) := by show _ < _; simp
            have HN0' : Hid (n0 ≤ (e11.alloc (.cells #[.int .i64 yk.S, .slice yk.ea yk.en yk.ec, .slice yk.ra yk.rn yk.rc] 38)).heap.size) := Nat.le_trans HN0.out kk.size
            have HB' : Hid (Below w.heap.size w (e11.alloc (.cells #[.int .i64 yk.S, .slice yk.ea yk.en yk.ec, .slice yk.ra yk.rn yk.rc] 38))) := below_step HB.out kk
            have HNA' : Hid (NFB (e11.alloc (.cells #[.int .i64 yk.S, .slice yk.ea yk.en yk.ec, .slice yk.ra yk.rn yk.rc] 38)) A ya) := HNA.out.later kk
            have HNB' : Hid (NFB (e11.alloc (.cells #[.int .i64 yk.S, .slice yk.ea yk.en yk.ec, .slice yk.ra yk.rn yk.rc] 38)) B yb) := HNB.out.later kk
            have HNX' : Hid (NFB (e11.alloc (.cells #[.int .i64 yk.S, .slice yk.ea yk.en yk.ec, .slice yk.ra yk.rn yk.rc] 38)) X xa) := HNX.out.later kk
            have HNY' : Hid (NFB (e11.alloc (.cells #[.int .i64 yk.S, .slice yk.ea yk.en yk.ec, .slice yk.ra yk.rn yk.rc] 38)) Y xb) := HNY.out.later kk
            have HNW' : Hid (NFB (e11.alloc (.cells #[.int .i64 yk.S, .slice yk.ea yk.en yk.ec, .slice yk.ra yk.rn yk.rc] 38)) WW xw) := HNW.out.later kk
            have HCX' : Hid (Cop (fun b => ¬ K.D b) (e11.alloc (.cells #[.int .i64 yk.S, .slice yk.ea yk.en yk.ec, .slice yk.ra yk.rn yk.rc] 38)) MA xa) := HCX.out.later kk
            have HCY' : Hid (Cop (fun b => ¬ K.D b) (e11.alloc (.cells #[.int .i64 yk.S, .slice yk.ea yk.en yk.ec, .slice yk.ra yk.rn yk.rc] 38)) MB xb) := HCY.out.later kk
            have HCW' : Hid (Cop (fun b => ¬ K.D b) (e11.alloc (.cells #[.int .i64 yk.S, .slice yk.ea yk.en yk.ec, .slice yk.ra yk.rn yk.rc] 38)) MD xw) := HCW.out.later kk
            have HOP' : Hid (Own (e11.alloc (.cells #[.int .i64 yk.S, .slice yk.ea yk.en yk.ec, .slice yk.ra yk.rn yk.rc] 38)) n0 MA yp) := HOP.out.later kk
            have HNP' : Hid (NFB (e11.alloc (.cells #[.int .i64 yk.S, .slice yk.ea yk.en yk.ec, .slice yk.ra yk.rn yk.rc] 38)) PP yp) := HNP.out.later kk
            have HOH' : Hid (Own (e11.alloc (.cells #[.int .i64 yk.S, .slice yk.ea yk.en yk.ec, .slice yk.ra yk.rn yk.rc] 38)) n0 MD yh) := HOH.out.later kk
            have HNH' : Hid (NFB (e11.alloc (.cells #[.int .i64 yk.S, .slice yk.ea yk.en yk.ec, .slice yk.ra yk.rn yk.rc] 38)) HH yh) := HNH.out.later kk
            have HMY' : Hid (MaAt (fun _ => True) (e11.alloc (.cells #[.int .i64 yk.S, .slice yk.ea yk.en yk.ec, .slice yk.ra yk.rn yk.rc] 38)) MA ya) := HMY.out.later kk
            have HMZ' : Hid (MaAt (fun _ => True) (e11.alloc (.cells #[.int .i64 yk.S, .slice yk.ea yk.en yk.ec, .slice yk.ra yk.rn yk.rc] 38)) MB yb) := HMZ.out.later kk
            have HOK3' : Hid (Own (e11.alloc (.cells #[.int .i64 yk.S, .slice yk.ea yk.en yk.ec, .slice yk.ra yk.rn yk.rc] 38)) n0 MD yk) := HOK3.out.later kk
            clear HN0 HB HNA HNB HNX HNY HNW HCX HCY HCW HOP HNP HOH HNH HMY HMZ HOK3
            have HN0 := HN0'
            have HB := HB'
            have HNA := HNA'
            have HNB := HNB'
            have HNX := HNX'
            have HNY := HNY'
            have HNW := HNW'
            have HCX := HCX'
            have HCY := HCY'
            have HCW := HCW'
            have HOP := HOP'
            have HNP := HNP'
            have HOH := HOH'
            have HNH := HNH'
            have HMY := HMY'
            have HMZ := HMZ'
            have HOK3 := HOK3'
            clear HN0' HB' HNA' HNB' HNX' HNY' HNW' HCX' HCY' HCW' HOP' HNP' HOH' HNH' HMY' HMZ' HOK3'
            have HNK : Hid (NFB (e11.alloc (.cells #[.int .i64 yk.S, .slice yk.ea yk.en yk.ec, .slice yk.ra yk.rn yk.rc] 38)) e11.heap.size yk) := nfb_new e11 yk
            unfold Nf.val
            go_upto_region 70 with fail
            obtain ⟨e12, hq⟩ : ∃ q, e11.alloc (.cells #[.int .i64 yk.S, .slice yk.ea yk.en yk.ec, .slice yk.ra yk.rn yk.rc] 38) = q := ⟨_, rfl⟩
            obtain ⟨KK, hb⟩ : ∃ q, e11.heap.size = q := ⟨_, rfl⟩
            rw [hq] at HSz HN0 HB HNA HNB HNX HNY HNW HCX HCY HCW HOP HNP HOH HNH HMY HMZ HOK3 HNK ⊢
            rw [hb] at HNK ⊢
            have HZe12 : Hid (e11.heap.size < e12.heap.size) := HSz
            clear hq hb kk HSz
            obtain ⟨z0, z1, z2⟩ := HNX.out.cells
            obtain ⟨z3, z4, z5⟩ := HNP.out.cells
            have HC : Hid (Calls Try.prog 24 #[xa.val, yp.val] e12 _) := kept_any e12 HCX.out HOP.out.ma (by have := HMA.out; omega) (by have := HMA.out; omega)
            unfold Nf.val at HC
            go_wp2_with fail
            refine HC.out.mono ?_
            rintro e e13 ⟨rfl, kc⟩
            clear HC z0 z1 z2 z3 z4 z5
            have HN0' : Hid (n0 ≤ e13.heap.size) := Nat.le_trans HN0.out kc.size
            have HB' : Hid (Below w.heap.size w e13) := below_step HB.out kc
            have HNA' : Hid (NFB e13 A ya) := HNA.out.later kc
            have HNB' : Hid (NFB e13 B yb) := HNB.out.later kc
            have HNX' : Hid (NFB e13 X xa) := HNX.out.later kc
            have HNY' : Hid (NFB e13 Y xb) := HNY.out.later kc
            have HNW' : Hid (NFB e13 WW xw) := HNW.out.later kc
            have HCX' : Hid (Cop (fun b => ¬ K.D b) e13 MA xa) := HCX.out.later kc
            have HCY' : Hid (Cop (fun b => ¬ K.D b) e13 MB xb) := HCY.out.later kc
            have HCW' : Hid (Cop (fun b => ¬ K.D b) e13 MD xw) := HCW.out.later kc
            have HOP' : Hid (Own e13 n0 MA yp) := HOP.out.later kc
            have HNP' : Hid (NFB e13 PP yp) := HNP.out.later kc
            have HOH' : Hid (Own e13 n0 MD yh) := HOH.out.later kc
            have HNH' : Hid (NFB e13 HH yh) := HNH.out.later kc
            have HMY' : Hid (MaAt (fun _ => True) e13 MA ya) := HMY.out.later kc
            have HMZ' : Hid (MaAt (fun _ => True) e13 MB yb) := HMZ.out.later kc
            have HOK3' : Hid (Own e13 n0 MD yk) := HOK3.out.later kc
            have HNK' : Hid (NFB e13 KK yk) := HNK.out.later kc
            clear HN0 HB HNA HNB HNX HNY HNW HCX HCY HCW HOP HNP HOH HNH HMY HMZ HOK3 HNK
            have HN0 := HN0'
            have HB := HB'
            have HNA := HNA'
            have HNB := HNB'
            have HNX := HNX'
            have HNY := HNY'
            have HNW := HNW'
            have HCX := HCX'
            have HCY := HCY'
            have HCW := HCW'
            have HOP := HOP'
            have HNP := HNP'
            have HOH := HOH'
            have HNH := HNH'
            have HMY := HMY'
            have HMZ := HMZ'
            have HOK3 := HOK3'
            have HNK := HNK'
            clear HN0' HB' HNA' HNB' HNX' HNY' HNW' HCX' HCY' HCW' HOP' HNP' HOH' HNH' HMY' HMZ' HOK3' HNK'
            clear kc
            obtain ⟨z0, z1, z2⟩ := HNW.out.cells
            obtain ⟨z3, z4, z5⟩ := HNH.out.cells
            have HC : Hid (Calls Try.prog 24 #[xw.val, yh.val] e13 _) := kept_any e13 HCW.out HOH.out.ma (by have := HMD.out; omega) (by have := HMD.out; omega)
            unfold Nf.val at HC
            go_wp2_with fail
            refine HC.out.mono ?_
            rintro e e14 ⟨rfl, kc⟩
            clear HC z0 z1 z2 z3 z4 z5
            have HN0' : Hid (n0 ≤ e14.heap.size) := Nat.le_trans HN0.out kc.size
            have HB' : Hid (Below w.heap.size w e14) := below_step HB.out kc
            have HNA' : Hid (NFB e14 A ya) := HNA.out.later kc
            have HNB' : Hid (NFB e14 B yb) := HNB.out.later kc
            have HNX' : Hid (NFB e14 X xa) := HNX.out.later kc
            have HNY' : Hid (NFB e14 Y xb) := HNY.out.later kc
            have HNW' : Hid (NFB e14 WW xw) := HNW.out.later kc
            have HCX' : Hid (Cop (fun b => ¬ K.D b) e14 MA xa) := HCX.out.later kc
            have HCY' : Hid (Cop (fun b => ¬ K.D b) e14 MB xb) := HCY.out.later kc
            have HCW' : Hid (Cop (fun b => ¬ K.D b) e14 MD xw) := HCW.out.later kc
            have HOP' : Hid (Own e14 n0 MA yp) := HOP.out.later kc
            have HNP' : Hid (NFB e14 PP yp) := HNP.out.later kc
            have HOH' : Hid (Own e14 n0 MD yh) := HOH.out.later kc
            have HNH' : Hid (NFB e14 HH yh) := HNH.out.later kc
            have HMY' : Hid (MaAt (fun _ => True) e14 MA ya) := HMY.out.later kc
            have HMZ' : Hid (MaAt (fun _ => True) e14 MB yb) := HMZ.out.later kc
            have HOK3' : Hid (Own e14 n0 MD yk) := HOK3.out.later kc
            have HNK' : Hid (NFB e14 KK yk) := HNK.out.later kc
            clear HN0 HB HNA HNB HNX HNY HNW HCX HCY HCW HOP HNP HOH HNH HMY HMZ HOK3 HNK
            have HN0 := HN0'
            have HB := HB'
            have HNA := HNA'
            have HNB := HNB'
            have HNX := HNX'
            have HNY := HNY'
            have HNW := HNW'
            have HCX := HCX'
            have HCY := HCY'
            have HCW := HCW'
            have HOP := HOP'
            have HNP := HNP'
            have HOH := HOH'
            have HNH := HNH'
            have HMY := HMY'
            have HMZ := HMZ'
            have HOK3 := HOK3'
            have HNK := HNK'
            clear HN0' HB' HNA' HNB' HNX' HNY' HNW' HCX' HCY' HCW' HOP' HNP' HOH' HNH' HMY' HMZ' HOK3' HNK'
            clear kc
            obtain ⟨z0, z1, z2⟩ := HNW.out.cells
            obtain ⟨z3, z4, z5⟩ := HNK.out.cells
            have HC : Hid (Calls Try.prog 24 #[xw.val, yk.val] e14 _) := kept_any e14 HCW.out HOK3.out.ma (by have := HMD.out; omega) (by have := HMD.out; omega)
            unfold Nf.val at HC
            go_wp2_with fail
            refine HC.out.mono ?_
            rintro e e15 ⟨rfl, kc⟩
            clear HC z0 z1 z2 z3 z4 z5
            have HN0' : Hid (n0 ≤ e15.heap.size) := Nat.le_trans HN0.out kc.size
            have HB' : Hid (Below w.heap.size w e15) := below_step HB.out kc
            have HNA' : Hid (NFB e15 A ya) := HNA.out.later kc
            have HNB' : Hid (NFB e15 B yb) := HNB.out.later kc
            have HNX' : Hid (NFB e15 X xa) := HNX.out.later kc
            have HNY' : Hid (NFB e15 Y xb) := HNY.out.later kc
            have HNW' : Hid (NFB e15 WW xw) := HNW.out.later kc
            have HCX' : Hid (Cop (fun b => ¬ K.D b) e15 MA xa) := HCX.out.later kc
            have HCY' : Hid (Cop (fun b => ¬ K.D b) e15 MB xb) := HCY.out.later kc
            have HCW' : Hid (Cop (fun b => ¬ K.D b) e15 MD xw) := HCW.out.later kc
            have HOP' : Hid (Own e15 n0 MA yp) := HOP.out.later kc
            have HNP' : Hid (NFB e15 PP yp) := HNP.out.later kc
            have HOH' : Hid (Own e15 n0 MD yh) := HOH.out.later kc
            have HNH' : Hid (NFB e15 HH yh) := HNH.out.later kc
            have HMY' : Hid (MaAt (fun _ => True) e15 MA ya) := HMY.out.later kc
            have HMZ' : Hid (MaAt (fun _ => True) e15 MB yb) := HMZ.out.later kc
            have HOK3' : Hid (Own e15 n0 MD yk) := HOK3.out.later kc
            have HNK' : Hid (NFB e15 KK yk) := HNK.out.later kc
            clear HN0 HB HNA HNB HNX HNY HNW HCX HCY HCW HOP HNP HOH HNH HMY HMZ HOK3 HNK
            have HN0 := HN0'
            have HB := HB'
            have HNA := HNA'
            have HNB := HNB'
            have HNX := HNX'
            have HNY := HNY'
            have HNW := HNW'
            have HCX := HCX'
            have HCY := HCY'
            have HCW := HCW'
            have HOP := HOP'
            have HNP := HNP'
            have HOH := HOH'
            have HNH := HNH'
            have HMY := HMY'
            have HMZ := HMZ'
            have HOK3 := HOK3'
            have HNK := HNK'
            clear HN0' HB' HNA' HNB' HNX' HNY' HNW' HCX' HCY' HCW' HOP' HNP' HOH' HNH' HMY' HMZ' HOK3' HNK'
            clear kc
            go_wp2
            go_ret
            exact ⟨rfl, HB.out⟩
end Go.Proofs.Ytjmbimgofceanaa

