/- SimExact: its walk. -/
import Derived.Test.YtmjnobdlgbojoaaDoorG24
namespace Go.Proofs.YtmjnobdlgbojoaaDoor
open Go.RowKit
attribute [local go_sem ↓] Go.wp_at_zero Go.wp_at_succ

set_option maxRecDepth 20000 in
set_option maxHeartbeats 16000000 in
theorem simExact_any (M : Ma) (x : Nf) (s t : ByteArray) (w : World) (hs : s.size ≤ maxLen) (ht : t.size ≤ maxLen) (hx : MaAt (fun _ => True) w M x) (he : M.es.length ≤ 1048576) (hr : M.rs.length ≤ 1048576) (h32 : ∀ z ∈ M.rs, z < 4294967296) (hT : Tab w) : Calls Tryd.prog 4 #[x.val, .string s, .string t] w fun e w' => e = .returned (.bool true) ∧ Below w.heap.size w w' := by
  unfold maxLen at hs ht
  have hx0 : MaAt (fun k => k < w.heap.size) w M x := hx.keep (fun _ _ h => h) (fun _ _ _ => rfl)
  have kk : Below w.heap.size w (w.alloc (.cells #[.int .i64 x.S, .slice x.ea x.en x.ec, .slice x.ra x.rn x.rc] 25)) := (Below.refl _ _).alloc (Nat.le_refl _) _
  have HNX : Hid (NFB (w.alloc (.cells #[.int .i64 x.S, .slice x.ea x.en x.ec, .slice x.ra x.rn x.rc] 25)) w.heap.size x) := nfb_new w x
  have HB : Hid (Below w.heap.size w (w.alloc (.cells #[.int .i64 x.S, .slice x.ea x.en x.ec, .slice x.ra x.rn x.rc] 25))) := kk
  have HFX : Hid (Calls Tryd.prog 5 #[] (w.alloc (.cells #[.int .i64 x.S, .slice x.ea x.en x.ec, .slice x.ra x.rn x.rc] 25)) _) := fixed_any _ (hT.later kk)
  obtain ⟨w1, hw1⟩ : ∃ w1, w.alloc (.cells #[.int .i64 x.S, .slice x.ea x.en x.ec, .slice x.ra x.rn x.rc] 25) = w1 := ⟨_, rfl⟩
  rw [hw1] at HNX HB HFX
  obtain ⟨A, hA⟩ : ∃ A, w.heap.size = A := ⟨_, rfl⟩
  rw [hA] at HNX
  have HW1 : Hid (w.alloc (.cells #[.int .i64 x.S, .slice x.ea x.en x.ec, .slice x.ra x.rn x.rc] 25) = w1) := hw1
  have HAA : Hid (w.heap.size = A) := hA
  have HT : Hid (Tab w) := hT
  have H32 : Hid (∀ z ∈ M.rs, z < 4294967296) := h32
  have HMX : Hid (MaAt (fun k => k < w.heap.size) w M x) := hx0
  have HQ3 : Hid (x.S = M.S ∧ x.en = M.es.length ∧ x.rn = M.rs.length) := ⟨hx.s, hx.n, hx.r⟩
  have HE : Hid (M.es.length ≤ 1048576) := he
  have HR : Hid (M.rs.length ≤ 1048576) := hr
  clear kk hx hx0 hw1 hA hT h32 he hr
  obtain ⟨xS, xa, en, xc, xra, xrn, xrc⟩ := x
  unfold Nf.val
  simp only at HW1 HQ3 ⊢
  have hen : en ≤ 1048576 := by have h1 := HQ3.out.2.1; have h2 := HE.out; omega
  have hrn : xrn ≤ 1048576 := by have h1 := HQ3.out.2.2; have h2 := HR.out; omega
  have HSB : Hid (Room w 0 0 0 → True) := fun _ => trivial
  clear HSB
  go_enter Tryd.func4, Tryd.ntmps4
  go_upto_region 1 with fail
  rw [HW1.out, HAA.out]
  clear HW1
  go_wp2_with fail
  refine HFX.out.mono ?_
  rintro e w2 ⟨rfl, k2⟩
  have HB2 : Hid (Below w.heap.size w w2) := below_step HB.out k2
  have HN2 : Hid (NFB w2 A ⟨xS, xa, en, xc, xra, xrn, xrc⟩) := HNX.out.later k2
  clear k2 HFX HNX HB
  go_upto_region 3 with fail
  obtain ⟨t60, ht60⟩ : ∃ tb : Bool, tb = decide (60 < s.size) := ⟨_, rfl⟩
  have HT60 : Hid (t60 = decide (60 < s.size)) := ht60
  clear ht60
  go_cut [24] (fun v wx => v = .bool t60 ∧ wx = w2)
  case first =>
    by_cases h60 : 60 < s.size
    · have h60' : (60 : Int) < (s.size : Int) := by omega
      have hd : decide (60 < s.size) = true := decide_eq_true h60
      have hv : t60 = true := HT60.out.trans hd
      clear h60
      go_wp2_with fail
      go_meet
      case rel => exact ⟨by rw [hv], rfl⟩
    · have h60' : ¬ (60 : Int) < (s.size : Int) := by omega
      have hd : decide (60 < s.size) = false := decide_eq_false h60
      have hv : t60 = false := HT60.out.trans hd
      clear h60
      go_wp2_with fail
      go_meet
      case rel => exact ⟨by rw [hv], rfl⟩
  case rest =>
  obtain ⟨rfl, rfl⟩ := hcut
  go_upto_if 24 with fail
  go_cut [1] (fun v wx => ∃ s2 : ByteArray, v = .string s2 ∧ s2.size ≤ 60 ∧ wx = wc)
  case first =>
    cases t60 with
    | true =>
      have h60 : 60 < s.size := of_decide_eq_true HT60.out.symm
      have h60' : (60 : Int) < (s.size : Int) := by omega
      have h60e : (60 : Int) ≤ (s.size : Int) := by omega
      go_wp2_with fail
      go_meet
      case rel => exact ⟨_, rfl, by simp; omega, rfl⟩
    | false =>
      have h60 : ¬ 60 < s.size := of_decide_eq_false HT60.out.symm
      go_wp2_with fail
      go_meet
      case rel => exact ⟨s, rfl, by omega, rfl⟩
  case rest =>
  obtain ⟨s2, rfl, hs2, rfl⟩ := hcut
  clear hs HT60 s t60
  go_upto_region 5 with fail
  obtain ⟨t60, ht60⟩ : ∃ tb : Bool, tb = decide (60 < t.size) := ⟨_, rfl⟩
  have HT60 : Hid (t60 = decide (60 < t.size)) := ht60
  clear ht60
  go_cut [29] (fun v wx => v = .bool t60 ∧ wx = wc)
  case first =>
    by_cases h60 : 60 < t.size
    · have h60' : (60 : Int) < (t.size : Int) := by omega
      have hd : decide (60 < t.size) = true := decide_eq_true h60
      have hv : t60 = true := HT60.out.trans hd
      clear h60
      go_wp2_with fail
      go_meet
      case rel => exact ⟨by rw [hv], rfl⟩
    · have h60' : ¬ (60 : Int) < (t.size : Int) := by omega
      have hd : decide (60 < t.size) = false := decide_eq_false h60
      have hv : t60 = false := HT60.out.trans hd
      clear h60
      go_wp2_with fail
      go_meet
      case rel => exact ⟨by rw [hv], rfl⟩
  case rest =>
  obtain ⟨rfl, rfl⟩ := hcut
  go_upto_if 29 with fail
  go_cut [2] (fun v wx => ∃ s2 : ByteArray, v = .string s2 ∧ s2.size ≤ 60 ∧ wx = wc)
  case first =>
    cases t60 with
    | true =>
      have h60 : 60 < t.size := of_decide_eq_true HT60.out.symm
      have h60' : (60 : Int) < (t.size : Int) := by omega
      have h60e : (60 : Int) ≤ (t.size : Int) := by omega
      go_wp2_with fail
      go_meet
      case rel => exact ⟨_, rfl, by simp; omega, rfl⟩
    | false =>
      have h60 : ¬ 60 < t.size := of_decide_eq_false HT60.out.symm
      go_wp2_with fail
      go_meet
      case rel => exact ⟨t, rfl, by omega, rfl⟩
  case rest =>
  obtain ⟨t2, rfl, ht2, rfl⟩ := hcut
  clear ht HT60 t t60
  obtain ⟨w2, hw2⟩ : ∃ w2, w2 = wc := ⟨_, rfl⟩
  subst hw2
  obtain ⟨b0, b1, b2⟩ := HN2.out.cells
  simp only at b0 b1 b2
  have HCP : Hid (Calls Tryd.prog 13 #[.agg #[.int .i64 xS, .slice xa en xc, .slice xra xrn xrc]] w2 fun e w' => ∃ eb ec rb rc, e = .returned (.agg #[.int .i64 xS, .slice (some ⟨eb, 0, none⟩) en ec, .slice (some ⟨rb, 0, none⟩) xrn rc]) ∧ CopO w2.heap.size w' M eb ec rb rc ∧ Below w2.heap.size w2 w') := copied_any w2 ((HMX.out.keep (fun _ _ _ => trivial) (fun b hb _ => HB2.out.block b hb))) HE.out HR.out
  go_wp2_with fail
  refine HCP.out.mono ?_
  rintro e w3 ⟨eb, ec, rb, rc, rfl, hcop, k3⟩
  have HB3 : Hid (Below w.heap.size w w3) := below_step HB2.out k3
  have HC3 : Hid (CopO w.heap.size w3 M eb ec rb rc) := CopO.low hcop HB2.out.size
  have HN3 : Hid (NFB w3 A ⟨xS, xa, en, xc, xra, xrn, xrc⟩) := HN2.out.later k3
  clear k3 hcop HCP HB2 HN2 b0 b1 b2

  have kk : Below w3.heap.size w3 (w3.alloc (.cells #[.int .i64 xS, .slice (some ⟨eb, 0, none⟩) en ec, .slice (some ⟨rb, 0, none⟩) xrn rc] 25)) := (Below.refl _ _).alloc (Nat.le_refl _) _
  have HP4 : Hid (Pr A w3.heap.size ⟨xS, xa, en, xc, xra, xrn, xrc⟩ eb ec rb rc M w (w3.alloc (.cells #[.int .i64 xS, .slice (some ⟨eb, 0, none⟩) en ec, .slice (some ⟨rb, 0, none⟩) xrn rc] 25))) := ⟨below_step HB3.out kk, HN3.out.later kk, nfb_new w3 ⟨xS, some ⟨eb, 0, none⟩, en, ec, some ⟨rb, 0, none⟩, xrn, rc⟩, HC3.out.later kk⟩
  clear kk
  go_upto_region 8 with fail
  obtain ⟨w4, hw4⟩ : ∃ w4, (w3.alloc (.cells #[.int .i64 xS, .slice (some ⟨eb, 0, none⟩) en ec, .slice (some ⟨rb, 0, none⟩) xrn rc] 25)) = w4 := ⟨_, rfl⟩
  obtain ⟨X, hX⟩ : ∃ X, w3.heap.size = X := ⟨_, rfl⟩
  rw [hw4] at HP4 ⊢
  rw [hX] at HP4 ⊢
  clear hw4 hX HB3 HC3 HN3
  obtain ⟨q, hq⟩ : ∃ q : Int, q = if rightOf M then 0 else 70 := ⟨_, rfl⟩
  have HQ : Hid (q = if rightOf M then 0 else 70) := hq
  clear hq
  have HMU : Hid (∀ u, Below w.heap.size w u → MaAt (fun _ => True) u M ⟨xS, xa, en, xc, xra, xrn, xrc⟩ ∧ Tab u) := fun u hu => ⟨HMX.out.keep (fun _ _ _ => trivial) (fun b hb _ => hu.block b hb), HT.out.low hu HT.out.pos⟩
  have HCU : Hid (∀ u, Pr A X ⟨xS, xa, en, xc, xra, xrn, xrc⟩ eb ec rb rc M w u → Cop (fun _ => True) u M ⟨xS, some ⟨eb, 0, none⟩, en, ec, some ⟨rb, 0, none⟩, xrn, rc⟩) := fun u hu => hu.cop.cop HQ3.out.1 HQ3.out.2.1 HQ3.out.2.2
  have HKU : Hid (∀ u, Pr A X ⟨xS, xa, en, xc, xra, xrn, xrc⟩ eb ec rb rc M w u → Calls Tryd.prog 16 #[.agg #[.int .i64 xS, .slice (some ⟨eb, 0, none⟩) en ec, .slice (some ⟨rb, 0, none⟩) xrn rc], .agg #[.int .i64 xS, .slice xa en xc, .slice xra xrn xrc]] u fun e w' => e = .returned (.bool true) ∧ Below u.heap.size u w') := fun u hu => kept_any (x := ⟨xS, some ⟨eb, 0, none⟩, en, ec, some ⟨rb, 0, none⟩, xrn, rc⟩) (y := ⟨xS, xa, en, xc, xra, xrn, xrc⟩) u (HCU.out u hu) (HMU.out u hu.low).1 HE.out HR.out
  have HL1 : Hid (Calls Tryd.prog 14 #[.agg #[.int .i64 xS, .slice xa en xc, .slice xra xrn xrc], .string s2] w4 fun e w' => Below w4.heap.size w4 w' ∧ ∃ v : Nat, e = .returned (.tuple #[.int .u32 (v : Nat), .int .i64 q]) ∧ (if rightOf M then LineOf M (bts s2) v else v = 0)) := by
    show Calls _ _ _ _ _
    rw [HQ.out]
    exact rline_any M ⟨xS, xa, en, xc, xra, xrn, xrc⟩ s2 w4 (by unfold maxLen; omega) (HMU.out w4 HP4.out.low).1 HE.out HR.out H32.out
  have HL2 : Hid (∀ u, Pr A X ⟨xS, xa, en, xc, xra, xrn, xrc⟩ eb ec rb rc M w u → Calls Tryd.prog 15 #[.agg #[.int .i64 xS, .slice (some ⟨eb, 0, none⟩) en ec, .slice (some ⟨rb, 0, none⟩) xrn rc], .string s2] u fun e w' => Below u.heap.size u w' ∧ ∃ v : Nat, e = .returned (.tuple #[.int .u32 (v : Nat), .int .i64 q]) ∧ (if rightOf M then LineOf M (bts s2) v else v = 0)) := fun u hu => by
    rw [HQ.out]
    exact line_any M ⟨xS, some ⟨eb, 0, none⟩, en, ec, some ⟨rb, 0, none⟩, xrn, rc⟩ s2 u (by unfold maxLen; omega) (HCU.out u hu).ma (by have := HE.out; omega) (by have := HR.out; omega) H32.out (HMU.out u hu.low).2
  obtain ⟨b0, b1, b2⟩ := HP4.out.nx.cells
  simp only at b0 b1 b2
  go_wp2_with fail
  refine HL1.out.mono ?_
  rintro e w5 ⟨k5, v, rfl, hv⟩
  have HP5 : Hid (Pr A X ⟨xS, xa, en, xc, xra, xrn, xrc⟩ eb ec rb rc M w w5) := HP4.out.later k5
  have HV : Hid (if rightOf M then LineOf M (bts s2) v else v = 0) := hv
  clear k5 hv HL1 HP4 b0 b1 b2
  obtain ⟨b0, b1, b2⟩ := HP5.out.ny.cells
  simp only at b0 b1 b2
  go_wp2_with fail
  refine (HL2.out w5 HP5.out).mono ?_
  rintro e w6 ⟨k6, v2, rfl, hv2⟩
  have hvv : v2 = v := line_two hv2 HV.out
  subst hvv
  have HP6 : Hid (Pr A X ⟨xS, xa, en, xc, xra, xrn, xrc⟩ eb ec rb rc M w w6) := HP5.out.later k6
  clear k6 hv2 HV HL2 HP5 b0 b1 b2
  obtain ⟨b0, b1, b2⟩ := HP6.out.nx.cells
  obtain ⟨d0, d1, d2⟩ := HP6.out.ny.cells
  simp only at b0 b1 b2 d0 d1 d2
  have eq1 : (q != q) = false := by simp
  have eq2 : ((v2 : Int) != (v2 : Int)) = false := by simp
  go_wp2_with fail
  refine (HKU.out w6 HP6.out).mono ?_
  rintro e w7 ⟨rfl, k7⟩
  have HP7 : Hid (Pr A X ⟨xS, xa, en, xc, xra, xrn, xrc⟩ eb ec rb rc M w w7) := HP6.out.later k7
  clear k7 HP6 b0 b1 b2 d0 d1 d2 eq1 eq2
  have HR1 : Hid (∀ u, Below w.heap.size w u → Calls Tryd.prog 17 #[.agg #[.int .i64 xS, .slice xa en xc, .slice xra xrn xrc]] u (RBegPost u M ⟨xS, xa, en, xc, xra, xrn, xrc⟩)) := fun u hu => rbegin_any M ⟨xS, xa, en, xc, xra, xrn, xrc⟩ u (HMU.out u hu).1 HE.out HR.out H32.out
  have HG1 : Hid (∀ u, Pr A X ⟨xS, xa, en, xc, xra, xrn, xrc⟩ eb ec rb rc M w u → Calls Tryd.prog 8 #[.agg #[.int .i64 xS, .slice (some ⟨eb, 0, none⟩) en ec, .slice (some ⟨rb, 0, none⟩) xrn rc]] u (BeginPost u M)) := fun u hu => begin_any M ⟨xS, some ⟨eb, 0, none⟩, en, ec, some ⟨rb, 0, none⟩, xrn, rc⟩ u (HCU.out u hu).ma (by have := HE.out; omega) (by have := HR.out; omega) H32.out (HMU.out u hu.low).2
  cases hok : rightOf M with
  | false =>
    have hq : q = 70 := by have h := HQ.out; rw [hok] at h; exact h
    subst hq
    have HOK : Hid (rightOf M = false) := hok
    clear HQ hok
    obtain ⟨b0, b1, b2⟩ := HP7.out.nx.cells
    simp only at b0 b1 b2
    go_wp2_with fail
    refine (HR1.out w7 HP7.out.low).mono ?_
    rintro e w8 ⟨k8, hp⟩
    rcases hp with ⟨_, rfl⟩ | ⟨h, _⟩
    rotate_left
    · exact absurd (h.symm.trans HOK.out) (by decide)
    have HP8 : Hid (Pr A X ⟨xS, xa, en, xc, xra, xrn, xrc⟩ eb ec rb rc M w w8) := HP7.out.later k8
    clear k8 HP7 b0 b1 b2
    obtain ⟨b0, b1, b2⟩ := HP8.out.nx.cells
    simp only at b0 b1 b2
    go_wp2_with fail
    refine (HR1.out w8 HP8.out.low).mono ?_
    rintro e w9 ⟨k9, hp⟩
    rcases hp with ⟨_, rfl⟩ | ⟨h, _⟩
    rotate_left
    · exact absurd (h.symm.trans HOK.out) (by decide)
    have HP9 : Hid (Pr A X ⟨xS, xa, en, xc, xra, xrn, xrc⟩ eb ec rb rc M w w9) := HP8.out.later k9
    clear k9 HP8 b0 b1 b2
    obtain ⟨b0, b1, b2⟩ := HP9.out.ny.cells
    simp only at b0 b1 b2
    go_wp2_with fail
    refine (HG1.out w9 HP9.out).mono ?_
    rintro e w10 ⟨k10, hp⟩
    rcases hp with ⟨_, rfl⟩ | ⟨h, _⟩
    rotate_left
    · exact absurd (h.symm.trans HOK.out) (by decide)
    have HP10 : Hid (Pr A X ⟨xS, xa, en, xc, xra, xrn, xrc⟩ eb ec rb rc M w w10) := HP9.out.later k10
    clear k10 HP9 b0 b1 b2
    obtain ⟨b0, b1, b2⟩ := HP10.out.ny.cells
    simp only at b0 b1 b2
    go_wp2_with fail
    refine (HG1.out w10 HP10.out).mono ?_
    rintro e w11 ⟨k11, hp⟩
    rcases hp with ⟨_, rfl⟩ | ⟨h, _⟩
    rotate_left
    · exact absurd (h.symm.trans HOK.out) (by decide)
    have HP11 : Hid (Pr A X ⟨xS, xa, en, xc, xra, xrn, xrc⟩ eb ec rb rc M w w11) := HP10.out.later k11
    clear k11 HP10 b0 b1 b2
    obtain ⟨b0, b1, b2⟩ := HP11.out.nx.cells
    obtain ⟨d0, d1, d2⟩ := HP11.out.ny.cells
    simp only at b0 b1 b2 d0 d1 d2
    go_wp2_with fail
    refine (HKU.out w11 HP11.out).mono ?_
    rintro e w12 ⟨rfl, k12⟩
    have HP12 : Hid (Pr A X ⟨xS, xa, en, xc, xra, xrn, xrc⟩ eb ec rb rc M w w12) := HP11.out.later k12
    clear k12 HP11 b0 b1 b2 d0 d1 d2
    go_wp2
    go_ret
    exact ⟨rfl, HP12.out.low⟩
  | true =>
    have hq : q = 0 := by have h := HQ.out; rw [hok] at h; exact h
    subst hq
    have HOK : Hid (rightOf M = true) := hok
    clear HQ hok
    have HF : Hid (Fits M M.rs.length) := fits_of HOK.out H32.out
    obtain ⟨b0, b1, b2⟩ := HP7.out.nx.cells
    simp only at b0 b1 b2
    go_wp2_with fail
    refine (HR1.out w7 HP7.out.low).mono ?_
    rintro e w8 ⟨k8, hp⟩
    rcases hp with ⟨h, _⟩ | ⟨_, B1, g1, r1, rfl, hm8, hk8⟩
    · exact absurd (h.symm.trans HOK.out) (by decide)
    have HP8 : Hid (Pr A X ⟨xS, xa, en, xc, xra, xrn, xrc⟩ eb ec rb rc M w w8) := HP7.out.later k8
    have HM1 : Hid (Mom M [] g1 r1) := hm8
    have HK8 : Hid (RkAt w7.heap.size w8 B1 ⟨xS, xa, en, xc, xra, xrn, xrc⟩ M.rs.length g1 r1 true) := hk8
    have HS7 : Hid (w.heap.size ≤ w7.heap.size) := HP7.out.low.size
    clear k8 hm8 hk8 HP7 b0 b1 b2
    obtain ⟨b0, b1, b2⟩ := HP8.out.nx.cells
    simp only at b0 b1 b2
    go_wp2_with fail
    refine (HR1.out w8 HP8.out.low).mono ?_
    rintro e w9 ⟨k9, hp⟩
    rcases hp with ⟨h, _⟩ | ⟨_, B2, g2, r2, rfl, hm9, hk9⟩
    · exact absurd (h.symm.trans HOK.out) (by decide)
    obtain ⟨e3, e4⟩ := HM1.out.uniq hm9
    subst e3 e4
    have HP9 : Hid (Pr A X ⟨xS, xa, en, xc, xra, xrn, xrc⟩ eb ec rb rc M w w9) := HP8.out.later k9
    have HK9 : Hid (RkAt w7.heap.size w9 B1 ⟨xS, xa, en, xc, xra, xrn, xrc⟩ M.rs.length g1 r1 true) := HK8.out.later k9
    have HL9 : Hid (RkAt w8.heap.size w9 B2 ⟨xS, xa, en, xc, xra, xrn, xrc⟩ M.rs.length g1 r1 true) := hk9
    have HBB : Hid (B1 < w8.heap.size ∧ w8.heap.size ≤ B2 ∧ w7.heap.size ≤ B1 ∧ w8.heap.size ≤ w9.heap.size) := ⟨HK8.out.lt, by obtain ⟨_, _, h, _⟩ := hk9; exact h, by obtain ⟨_, _, h, _⟩ := HK8.out; exact h, k9.size⟩
    have HSC : Hid (eb < w8.heap.size ∧ rb < w8.heap.size) := ⟨HP8.out.cop.room.1.lt, HP8.out.cop.room.2.1.lt⟩
    clear k9 hm9 hk9 HP8 HK8 b0 b1 b2
    obtain ⟨b0, b1, b2⟩ := HP9.out.ny.cells
    simp only at b0 b1 b2
    go_wp2_with fail
    refine (HG1.out w9 HP9.out).mono ?_
    rintro e w10 ⟨k10, hp⟩
    rcases hp with ⟨h, _⟩ | ⟨_, W1, g2, r2, rfl, hm10, hk10⟩
    · exact absurd (h.symm.trans HOK.out) (by decide)
    obtain ⟨e3, e4⟩ := HM1.out.uniq hm10
    subst e3 e4
    have HP10 : Hid (Pr A X ⟨xS, xa, en, xc, xra, xrn, xrc⟩ eb ec rb rc M w w10) := HP9.out.later k10
    have HK10 : Hid (RkAt w7.heap.size w10 B1 ⟨xS, xa, en, xc, xra, xrn, xrc⟩ M.rs.length g1 r1 true) := HK9.out.later k10
    have HL10 : Hid (RkAt w8.heap.size w10 B2 ⟨xS, xa, en, xc, xra, xrn, xrc⟩ M.rs.length g1 r1 true) := HL9.out.later k10
    have HW10 : Hid (WkAt w9.heap.size w10 W1 M M.rs.length g1 r1 false) := hk10
    have HS10 : Hid (w9.heap.size ≤ w10.heap.size) := k10.size
    clear k10 hm10 hk10 HP9 HK9 HL9 b0 b1 b2
    obtain ⟨b0, b1, b2⟩ := HP10.out.ny.cells
    simp only at b0 b1 b2
    go_wp2_with fail
    refine (HG1.out w10 HP10.out).mono ?_
    rintro e w11 ⟨k11, hp⟩
    rcases hp with ⟨h, _⟩ | ⟨_, W2, g2, r2, rfl, hm11, hk11⟩
    · exact absurd (h.symm.trans HOK.out) (by decide)
    obtain ⟨e3, e4⟩ := HM1.out.uniq hm11
    subst e3 e4
    have HP11 : Hid (Pr A X ⟨xS, xa, en, xc, xra, xrn, xrc⟩ eb ec rb rc M w w11) := HP10.out.later k11
    have HK11 : Hid (RkAt w7.heap.size w11 B1 ⟨xS, xa, en, xc, xra, xrn, xrc⟩ M.rs.length g1 r1 true) := HK10.out.later k11
    have HL11 : Hid (RkAt w8.heap.size w11 B2 ⟨xS, xa, en, xc, xra, xrn, xrc⟩ M.rs.length g1 r1 true) := HL10.out.later k11
    have HW11 : Hid (WkAt w9.heap.size w11 W1 M M.rs.length g1 r1 false) := HW10.out.later k11
    have HV11 : Hid (WkAt w10.heap.size w11 W2 M M.rs.length g1 r1 false) := hk11
    have HWW : Hid (W1 < w10.heap.size ∧ w10.heap.size ≤ W2 ∧ w9.heap.size ≤ W1) := ⟨HW10.out.lt, hk11.1, HW10.out.1⟩
    clear k11 hm11 hk11 HP10 HK10 HL10 HW10 b0 b1 b2
    have HSD : Hid (Sd w.heap.size w9.heap.size w10.heap.size W1 W2 B1 B2) := by
      have h1 := HBB.out
      have h2 := HWW.out
      have h3 := HS10.out
      have h4 := HS7.out
      have h5 := HT.out.pos
      exact ⟨by omega, by omega, by omega, by omega, by omega, by omega, by omega, by omega, by omega⟩
    have HSE : Hid (eb < w9.heap.size ∧ rb < w9.heap.size ∧ eb < w10.heap.size ∧ rb < w10.heap.size) := by
      have h1 := HBB.out
      have h3 := HS10.out
      have h4 := HSC.out
      exact ⟨by omega, by omega, by omega, by omega⟩
    clear HBB HWW HS10 HS7 HSC
    obtain ⟨n7, hn7⟩ : ∃ n, n = w7.heap.size := ⟨_, rfl⟩
    obtain ⟨n8, hn8⟩ : ∃ n, n = w8.heap.size := ⟨_, rfl⟩
    obtain ⟨n9, hn9⟩ : ∃ n, n = w9.heap.size := ⟨_, rfl⟩
    obtain ⟨n10, hn10⟩ : ∃ n, n = w10.heap.size := ⟨_, rfl⟩
    rw [← hn7] at HK11
    rw [← hn8] at HL11
    rw [← hn9] at HW11 HSD HSE
    rw [← hn10] at HV11 HSD HSE
    clear hn7 hn8 hn9 hn10
    obtain ⟨b0, b1, b2⟩ := HP11.out.nx.cells
    obtain ⟨d0, d1, d2⟩ := HP11.out.ny.cells
    simp only at b0 b1 b2 d0 d1 d2
    go_wp2_with fail
    refine (HKU.out w11 HP11.out).mono ?_
    rintro e w12 ⟨rfl, k12⟩
    have HP12 : Hid (Pr A X ⟨xS, xa, en, xc, xra, xrn, xrc⟩ eb ec rb rc M w w12) := HP11.out.later k12
    have HK12 : Hid (RkAt n7 w12 B1 ⟨xS, xa, en, xc, xra, xrn, xrc⟩ M.rs.length g1 r1 true) := HK11.out.later k12
    have HL12 : Hid (RkAt n8 w12 B2 ⟨xS, xa, en, xc, xra, xrn, xrc⟩ M.rs.length g1 r1 true) := HL11.out.later k12
    have HW12 : Hid (WkAt n9 w12 W1 M M.rs.length g1 r1 false) := HW11.out.later k12
    have HV12 : Hid (WkAt n10 w12 W2 M M.rs.length g1 r1 false) := HV11.out.later k12
    clear k12 HP11 HK11 HL11 HW11 HV11 b0 b1 b2 d0 d1 d2
    have HSP : Hid (Calls Tryd.prog 18 #[.agg #[.int .i64 xS, .slice (some ⟨eb, 0, none⟩) en ec, .slice (some ⟨rb, 0, none⟩) xrn rc]] w12 fun e w' => e = .returned (.tuple #[]) ∧ Fr2 eb rb w12 w') := spoil_any xS eb rb en xrn ec rc w12 (by rw [HQ3.out.2.1]; exact HP12.out.cop.room.1) (by rw [HQ3.out.2.2]; exact HP12.out.cop.room.2.1) (by omega) (by omega)
    obtain ⟨b0, b1, b2⟩ := HP12.out.ny.cells
    simp only at b0 b1 b2
    go_wp2_with fail
    refine HSP.out.mono ?_
    rintro e w13 ⟨rfl, f13⟩
    have HB13 : Hid (Below w.heap.size w w13) := HP12.out.low.trans (f13.to HP12.out.cop.room.2.2.1 HP12.out.cop.room.2.2.2 HP12.out.low.size)
    have HX13 : Hid (Wx n9 n7 W1 B1 M.rs.length ⟨xS, xa, en, xc, xra, xrn, xrc⟩ M w13 []) := ⟨g1, r1, HM1.out, HW12.out.fr2 f13 HSE.out.1 HSE.out.2.1, HK12.out.fr2 f13 HP12.out.cop.room.1.ty HP12.out.cop.room.2.1.ty⟩
    have HY13 : Hid (Wx n10 n8 W2 B2 M.rs.length ⟨xS, xa, en, xc, xra, xrn, xrc⟩ M w13 []) := ⟨g1, r1, HM1.out, HV12.out.fr2 f13 HSE.out.2.2.1 HSE.out.2.2.2, HL12.out.fr2 f13 HP12.out.cop.room.1.ty HP12.out.cop.room.2.1.ty⟩
    have HFX : Hid (Fx w.heap.size M.rs.length ⟨xS, xa, en, xc, xra, xrn, xrc⟩ M w) := ⟨HMX.out, HF.out, HT.out, HE.out, HR.out, rfl⟩
    have HP0 : Hid (0 < w.heap.size) := HT.out.pos
    clear f13 HSP HP12 HK12 HL12 HW12 HV12 HM1 HSE HMX HMU HCU HKU HR1 HG1 H32 HQ3 HE HR HF HOK b0 b1 b2
    have kk : Below w13.heap.size w13 (w13.alloc (.cells #[.slice none 0 0, .slice none 0 0] 55)) := (Below.refl _ _).alloc (Nat.le_refl _) _
    have HE14 : Hid (Ex w.heap.size n9 n10 n7 n8 w13.heap.size W1 W2 B1 B2 M.rs.length 0 ⟨xS, xa, en, xc, xra, xrn, xrc⟩ M w (w13.alloc (.cells #[.slice none 0 0, .slice none 0 0] 55)) [] []) := ⟨below_step HB13.out kk, HX13.out.later kk, HY13.out.later kk, .slice none 0 0, .slice none 0 0, [], ⟨heap_alloc_new w13 _, HB13.out.size, rowV_nil _ _ _, rowV_nil _ _ _, (fun _ h => by cases h), (fun _ h => by cases h), List.nodup_nil, (fun _ h => by cases h)⟩, Nat.le_refl _, (fun _ h => by cases h)⟩
    clear kk
    go_upto_region 22 with fail
    obtain ⟨w14, hw14⟩ : ∃ w14, (w13.alloc (.cells #[.slice none 0 0, .slice none 0 0] 55)) = w14 := ⟨_, rfl⟩
    obtain ⟨K, hK⟩ : ∃ K, w13.heap.size = K := ⟨_, rfl⟩
    rw [hw14] at HE14 ⊢
    rw [hK] at HE14 ⊢
    clear hw14 hK HB13 HX13 HY13
    have HAT1 : Hid (Calls Tryd.prog 19 #[.pointer (some ⟨K, 0, none⟩), .pointer (some ⟨W1, 0, none⟩), .pointer (some ⟨B1, 0, none⟩)] w14 _) := HE14.out.at1 HFX.out HP0.out (by omega)
    go_wp2_with fail
    refine HAT1.out.mono ?_
    rintro e w15 ⟨rfl, he15⟩
    have HE15 : Hid (Ex w.heap.size n9 n10 n7 n8 K W1 W2 B1 B2 M.rs.length 2 ⟨xS, xa, en, xc, xra, xrn, xrc⟩ M w w15 [] []) := he15
    have HAT2 : Hid (Calls Tryd.prog 19 #[.pointer (some ⟨K, 0, none⟩), .pointer (some ⟨W2, 0, none⟩), .pointer (some ⟨B2, 0, none⟩)] w15 _) := he15.at2 HFX.out HP0.out (by omega)
    clear he15 HAT1 HE14
    go_wp2_with fail
    refine HAT2.out.mono ?_
    rintro e w16 ⟨rfl, he16⟩
    have HE16 : Hid (Ex w.heap.size n9 n10 n7 n8 K W1 W2 B1 B2 M.rs.length (4 + 4 * 0) ⟨xS, xa, en, xc, xra, xrn, xrc⟩ M w w16 ((bts s2).take 0) ((bts t2).take 0)) := he16
    clear he16 HAT2 HE15
    go_wp2_with fail
    go_loopw [19] (fun v u => ∃ i : Nat, v = .int .i64 (i : Nat) ∧ i ≤ 60 ∧ Hid (Ex w.heap.size n9 n10 n7 n8 K W1 W2 B1 B2 M.rs.length (4 + 4 * i) ⟨xS, xa, en, xc, xra, xrn, xrc⟩ M w u ((bts s2).take i) ((bts t2).take i))) (fun v _ => 60 - (intOf v).toNat)
    case atStart => exact ⟨0, rfl, Nat.zero_le _, HE16⟩
    case round =>
      clear HE16
      obtain ⟨i, rfl, hi, HX⟩ := hrel
      have HAT : Hid (∀ (u : World) (l1 l2 : List Nat), Ex w.heap.size n9 n10 n7 n8 K W1 W2 B1 B2 M.rs.length (4 + 4 * i) ⟨xS, xa, en, xc, xra, xrn, xrc⟩ M w u l1 l2 → Calls Tryd.prog 19 #[.pointer (some ⟨K, 0, none⟩), .pointer (some ⟨W1, 0, none⟩), .pointer (some ⟨B1, 0, none⟩)] u fun e u' => e = .returned (.bool true) ∧ Calls Tryd.prog 19 #[.pointer (some ⟨K, 0, none⟩), .pointer (some ⟨W2, 0, none⟩), .pointer (some ⟨B2, 0, none⟩)] u' fun e2 u2 => e2 = .returned (.bool true) ∧ Ex w.heap.size n9 n10 n7 n8 K W1 W2 B1 B2 M.rs.length (4 + 4 * (i + 1)) ⟨xS, xa, en, xc, xra, xrn, xrc⟩ M w u2 l1 l2) := fun u l1 l2 h => (h.at1 HFX.out HP0.out (by omega)).mono fun _ _ ⟨h1, h2⟩ => ⟨h1, (h2.at2 HFX.out HP0.out (by omega)).mono fun _ _ ⟨h3, h4⟩ => ⟨h3, by rw [show 4 + 4 * (i + 1) = 4 + 4 * i + 2 + 2 by omega]; exact h4⟩⟩
      by_cases hi1 : i < s2.size <;> by_cases hi2 : i < t2.size
      · have hi1' : (i : Int) < (s2.size : Int) := by omega
        have hi2' : (i : Int) < (t2.size : Int) := by omega
        have Hwr : Hid (Ex w.heap.size n9 n10 n7 n8 K W1 W2 B1 B2 M.rs.length (4 + 4 * i) ⟨xS, xa, en, xc, xra, xrn, xrc⟩ M w wr ((bts s2).take i) ((bts t2).take i)) := HX
        have hb1 : s2[i].toNat < 256 := UInt8.toNat_lt _
        have HY1 : Hid (Calls Tryd.prog 12 #[.pointer (some ⟨W1, 0, none⟩), .int .u8 (s2[i].toNat : Nat)] wr _) := Hwr.out.byte1 HFX.out HSD.out _ hb1
        go_wp2_with fail
        refine HY1.out.mono ?_
        rintro e u1 ⟨rfl, hz1⟩
        have HZ1 : Hid (Calls Tryd.prog 20 #[.pointer (some ⟨B1, 0, none⟩), .int .u8 (s2[i].toNat : Nat)] u1 _) := hz1
        clear hz1 HY1
        go_wp2_with fail
        refine HZ1.out.mono ?_
        rintro e u2 ⟨rfl, hx1⟩
        have Hu2 : Hid (Ex w.heap.size n9 n10 n7 n8 K W1 W2 B1 B2 M.rs.length (4 + 4 * i) ⟨xS, xa, en, xc, xra, xrn, xrc⟩ M w u2 ((bts s2).take (i + 1)) ((bts t2).take i)) := by show Ex w.heap.size n9 n10 n7 n8 K W1 W2 B1 B2 M.rs.length (4 + 4 * i) ⟨xS, xa, en, xc, xra, xrn, xrc⟩ M w u2 ((bts s2).take (i + 1)) ((bts t2).take i); rw [bts_take s2 hi1]; exact hx1
        clear hx1 HZ1 Hwr HX
        have hb2 : t2[i].toNat < 256 := UInt8.toNat_lt _
        have HY2 : Hid (Calls Tryd.prog 12 #[.pointer (some ⟨W2, 0, none⟩), .int .u8 (t2[i].toNat : Nat)] u2 _) := Hu2.out.byte2 HFX.out HSD.out _ hb2
        go_wp2_with fail
        refine HY2.out.mono ?_
        rintro e u3 ⟨rfl, hz2⟩
        have HZ2 : Hid (Calls Tryd.prog 20 #[.pointer (some ⟨B2, 0, none⟩), .int .u8 (t2[i].toNat : Nat)] u3 _) := hz2
        clear hz2 HY2
        go_wp2_with fail
        refine HZ2.out.mono ?_
        rintro e u4 ⟨rfl, hx2⟩
        have Hu4 : Hid (Ex w.heap.size n9 n10 n7 n8 K W1 W2 B1 B2 M.rs.length (4 + 4 * i) ⟨xS, xa, en, xc, xra, xrn, xrc⟩ M w u4 ((bts s2).take (i + 1)) ((bts t2).take (i + 1))) := by show Ex w.heap.size n9 n10 n7 n8 K W1 W2 B1 B2 M.rs.length (4 + 4 * i) ⟨xS, xa, en, xc, xra, xrn, xrc⟩ M w u4 ((bts s2).take (i + 1)) ((bts t2).take (i + 1)); rw [bts_take t2 hi2]; exact hx2
        clear hx2 HZ2 Hu2
        have HA : Hid (Calls Tryd.prog 19 #[.pointer (some ⟨K, 0, none⟩), .pointer (some ⟨W1, 0, none⟩), .pointer (some ⟨B1, 0, none⟩)] u4 _) := HAT.out u4 _ _ Hu4.out
        clear HAT
        go_wp2_with fail
        refine HA.out.mono ?_
        rintro e u5 ⟨rfl, ha5⟩
        have HA5 : Hid (Calls Tryd.prog 19 #[.pointer (some ⟨K, 0, none⟩), .pointer (some ⟨W2, 0, none⟩), .pointer (some ⟨B2, 0, none⟩)] u5 _) := ha5
        clear ha5 HA
        go_wp2_with fail
        refine HA5.out.mono ?_
        rintro e u6 ⟨rfl, hx6⟩
        have HX6 : Hid (Ex w.heap.size n9 n10 n7 n8 K W1 W2 B1 B2 M.rs.length (4 + 4 * (i + 1)) ⟨xS, xa, en, xc, xra, xrn, xrc⟩ M w u6 ((bts s2).take (i + 1)) ((bts t2).take (i + 1))) := hx6
        clear hx6 HA5
        go_wp2
        go_roundw
        case rel => exact ⟨i + 1, by go_num, by omega, HX6⟩
        case measure => simp [intOf]; omega
      · have hi1' : (i : Int) < (s2.size : Int) := by omega
        have hi2' : ¬ (i : Int) < (t2.size : Int) := by omega
        have Hwr : Hid (Ex w.heap.size n9 n10 n7 n8 K W1 W2 B1 B2 M.rs.length (4 + 4 * i) ⟨xS, xa, en, xc, xra, xrn, xrc⟩ M w wr ((bts s2).take i) ((bts t2).take i)) := HX
        have hb1 : s2[i].toNat < 256 := UInt8.toNat_lt _
        have HY1 : Hid (Calls Tryd.prog 12 #[.pointer (some ⟨W1, 0, none⟩), .int .u8 (s2[i].toNat : Nat)] wr _) := Hwr.out.byte1 HFX.out HSD.out _ hb1
        go_wp2_with fail
        refine HY1.out.mono ?_
        rintro e u1 ⟨rfl, hz1⟩
        have HZ1 : Hid (Calls Tryd.prog 20 #[.pointer (some ⟨B1, 0, none⟩), .int .u8 (s2[i].toNat : Nat)] u1 _) := hz1
        clear hz1 HY1
        go_wp2_with fail
        refine HZ1.out.mono ?_
        rintro e u2 ⟨rfl, hx1⟩
        have Hu2 : Hid (Ex w.heap.size n9 n10 n7 n8 K W1 W2 B1 B2 M.rs.length (4 + 4 * i) ⟨xS, xa, en, xc, xra, xrn, xrc⟩ M w u2 ((bts s2).take (i + 1)) ((bts t2).take (i + 1))) := by show Ex w.heap.size n9 n10 n7 n8 K W1 W2 B1 B2 M.rs.length (4 + 4 * i) ⟨xS, xa, en, xc, xra, xrn, xrc⟩ M w u2 ((bts s2).take (i + 1)) ((bts t2).take (i + 1)); rw [bts_take s2 hi1, bts_past (s := t2) (by omega)]; exact hx1
        clear hx1 HZ1 Hwr HX
        have HA : Hid (Calls Tryd.prog 19 #[.pointer (some ⟨K, 0, none⟩), .pointer (some ⟨W1, 0, none⟩), .pointer (some ⟨B1, 0, none⟩)] u2 _) := HAT.out u2 _ _ Hu2.out
        clear HAT
        go_wp2_with fail
        refine HA.out.mono ?_
        rintro e u5 ⟨rfl, ha5⟩
        have HA5 : Hid (Calls Tryd.prog 19 #[.pointer (some ⟨K, 0, none⟩), .pointer (some ⟨W2, 0, none⟩), .pointer (some ⟨B2, 0, none⟩)] u5 _) := ha5
        clear ha5 HA
        go_wp2_with fail
        refine HA5.out.mono ?_
        rintro e u6 ⟨rfl, hx6⟩
        have HX6 : Hid (Ex w.heap.size n9 n10 n7 n8 K W1 W2 B1 B2 M.rs.length (4 + 4 * (i + 1)) ⟨xS, xa, en, xc, xra, xrn, xrc⟩ M w u6 ((bts s2).take (i + 1)) ((bts t2).take (i + 1))) := hx6
        clear hx6 HA5
        go_wp2
        go_roundw
        case rel => exact ⟨i + 1, by go_num, by omega, HX6⟩
        case measure => simp [intOf]; omega
      · have hi1' : ¬ (i : Int) < (s2.size : Int) := by omega
        have hi2' : (i : Int) < (t2.size : Int) := by omega
        have Hwr : Hid (Ex w.heap.size n9 n10 n7 n8 K W1 W2 B1 B2 M.rs.length (4 + 4 * i) ⟨xS, xa, en, xc, xra, xrn, xrc⟩ M w wr ((bts s2).take i) ((bts t2).take i)) := HX
        have hb2 : t2[i].toNat < 256 := UInt8.toNat_lt _
        have HY2 : Hid (Calls Tryd.prog 12 #[.pointer (some ⟨W2, 0, none⟩), .int .u8 (t2[i].toNat : Nat)] wr _) := Hwr.out.byte2 HFX.out HSD.out _ hb2
        go_wp2_with fail
        refine HY2.out.mono ?_
        rintro e u3 ⟨rfl, hz2⟩
        have HZ2 : Hid (Calls Tryd.prog 20 #[.pointer (some ⟨B2, 0, none⟩), .int .u8 (t2[i].toNat : Nat)] u3 _) := hz2
        clear hz2 HY2
        go_wp2_with fail
        refine HZ2.out.mono ?_
        rintro e u4 ⟨rfl, hx2⟩
        have Hu4 : Hid (Ex w.heap.size n9 n10 n7 n8 K W1 W2 B1 B2 M.rs.length (4 + 4 * i) ⟨xS, xa, en, xc, xra, xrn, xrc⟩ M w u4 ((bts s2).take (i + 1)) ((bts t2).take (i + 1))) := by show Ex w.heap.size n9 n10 n7 n8 K W1 W2 B1 B2 M.rs.length (4 + 4 * i) ⟨xS, xa, en, xc, xra, xrn, xrc⟩ M w u4 ((bts s2).take (i + 1)) ((bts t2).take (i + 1)); rw [bts_take t2 hi2, bts_past (s := s2) (by omega)]; exact hx2
        clear hx2 HZ2 Hwr HX
        have HA : Hid (Calls Tryd.prog 19 #[.pointer (some ⟨K, 0, none⟩), .pointer (some ⟨W1, 0, none⟩), .pointer (some ⟨B1, 0, none⟩)] u4 _) := HAT.out u4 _ _ Hu4.out
        clear HAT
        go_wp2_with fail
        refine HA.out.mono ?_
        rintro e u5 ⟨rfl, ha5⟩
        have HA5 : Hid (Calls Tryd.prog 19 #[.pointer (some ⟨K, 0, none⟩), .pointer (some ⟨W2, 0, none⟩), .pointer (some ⟨B2, 0, none⟩)] u5 _) := ha5
        clear ha5 HA
        go_wp2_with fail
        refine HA5.out.mono ?_
        rintro e u6 ⟨rfl, hx6⟩
        have HX6 : Hid (Ex w.heap.size n9 n10 n7 n8 K W1 W2 B1 B2 M.rs.length (4 + 4 * (i + 1)) ⟨xS, xa, en, xc, xra, xrn, xrc⟩ M w u6 ((bts s2).take (i + 1)) ((bts t2).take (i + 1))) := hx6
        clear hx6 HA5
        go_wp2
        go_roundw
        case rel => exact ⟨i + 1, by go_num, by omega, HX6⟩
        case measure => simp [intOf]; omega
      · have hi1' : ¬ (i : Int) < (s2.size : Int) := by omega
        have hi2' : ¬ (i : Int) < (t2.size : Int) := by omega
        obtain ⟨low, _, _, VR, VW, es, hbk, hes, hel⟩ := HX.out
        have HLO : Hid (Below w.heap.size w wr) := low
        have HWH : Hid (Calls Tryd.prog 21 #[.pointer (some ⟨K, 0, none⟩)] wr _) := whole_any K wr hbk low.size (by omega) hel
        clear low hbk hel hes HX HAT
        go_wp2_with fail
        refine HWH.out.mono ?_
        rintro e u9 ⟨rfl, k9⟩
        have HEN : Hid (Below w.heap.size w u9) := HLO.out.trans k9
        clear k9 HWH
        go_wp2
        go_ret
        exact ⟨rfl, HEN.out⟩
end Go.Proofs.YtmjnobdlgbojoaaDoor
