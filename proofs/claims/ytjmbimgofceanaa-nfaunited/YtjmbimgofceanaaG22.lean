/- heronref07's Right. -/
import Derived.Test.YtjmbimgofceanaaG21
namespace Go.Proofs.Ytjmbimgofceanaa
open Go.RowKit
attribute [local go_sem ↓] Go.wp_at_zero Go.wp_at_succ

/-- an edge that fits -/
def okE (S : Int) (e : Eg) : Bool := !(decide (e.k < 1) || decide (4 < e.k) || decide (e.f < 0) || decide (S ≤ e.f) || decide (e.t < 0) || decide (S ≤ e.t) || (!decide (e.k = 2) && !noSet e.s))
/-- a machine that fits -/
def rightOf (M : Ma) : Bool := decide (1 ≤ M.S) && decide ((M.rs.length : Int) = M.S) && M.es.all (okE M.S)
theorem right_no {M : Ma} {j : Nat} {e : Eg} (h : M.es[j]? = some e) (ho : okE M.S e = false) : rightOf M = false := by
  unfold rightOf
  rw [Bool.and_eq_false_iff]
  refine Or.inr ?_
  rw [List.all_eq_false]
  exact ⟨e, List.mem_of_getElem? h, by simp [ho]⟩
set_option maxRecDepth 4000 in
set_option maxHeartbeats 16000000 in
theorem right_any {X : Nat → Prop} {M : Ma} {x : Nf} (w : World) (hx : MaAt X w M x) (he : M.es.length ≤ 100000000) : Calls Try.prog 23 #[x.val] w fun e w' => e = .returned (.bool (rightOf M)) ∧ Below w.heap.size w w' := by
  have kk : Below w.heap.size w (w.alloc (.cells #[.int .i64 x.S, .slice x.ea x.en x.ec, .slice x.ra x.rn x.rc] 38)) := (Below.refl _ _).alloc (Nat.le_refl _) _
  have HNX : Hid (NFB (w.alloc (.cells #[.int .i64 x.S, .slice x.ea x.en x.ec, .slice x.ra x.rn x.rc] 38)) w.heap.size x) := nfb_new w x
  have HB : Hid (Below w.heap.size w (w.alloc (.cells #[.int .i64 x.S, .slice x.ea x.en x.ec, .slice x.ra x.rn x.rc] 38))) := kk
  obtain ⟨w2, hw2⟩ : ∃ w2, w.alloc (.cells #[.int .i64 x.S, .slice x.ea x.en x.ec, .slice x.ra x.rn x.rc] 38) = w2 := ⟨_, rfl⟩
  rw [hw2] at HNX HB
  obtain ⟨A, hA⟩ : ∃ A, w.heap.size = A := ⟨_, rfl⟩
  rw [hA] at HNX
  have HW2 : Hid (w.alloc (.cells #[.int .i64 x.S, .slice x.ea x.en x.ec, .slice x.ra x.rn x.rc] 38) = w2) := hw2
  have HAA : Hid (w.heap.size = A) := hA
  have HX : Hid (MaAt X w M x) := hx
  clear hw2 hA kk hx
  obtain ⟨xS, xa, xn, xc, xra, xrn, xrc⟩ := x
  have e1 : xS = M.S := HX.out.s
  have e3 : xn = M.es.length := HX.out.n
  have e5 : xrn = M.rs.length := HX.out.r
  subst e1 e3 e5
  obtain ⟨n, hn⟩ : ∃ n, M.es.length = n := ⟨_, rfl⟩
  obtain ⟨rn, hrn⟩ : ∃ rn, M.rs.length = rn := ⟨_, rfl⟩
  have HE : Hid (EAt X w xa M.es) := HX.out.e
  have HN : Hid (M.es.length = n ∧ M.rs.length = rn) := ⟨hn, hrn⟩
  rw [hn] at HNX HW2 he
  rw [hrn] at HNX HW2
  unfold Nf.val
  simp only at HW2 ⊢
  rw [hn, hrn]
  obtain ⟨S, hS⟩ : ∃ S, M.S = S := ⟨_, rfl⟩
  rw [hS] at HNX HW2 ⊢
  have HS : Hid (M.S = S) := hS
  have HRO : Hid (rightOf M = (decide (1 ≤ S) && decide ((rn : Int) = S) && M.es.all (okE S))) := by show _ = _; unfold rightOf; rw [hS, hrn]
  clear hn hrn HX hS
  go_enter Try.func23, Try.ntmps23
  go_upto_region 1 with fail
  rw [HW2.out, HAA.out]
  clear HW2
  obtain ⟨x0, x1, x2⟩ := HNX.out.cells
  simp only at x0 x1 x2
  by_cases hS1 : S < 1
  · have HNo : Hid (rightOf M = false) := by show _ = _; rw [HRO.out, show decide (1 ≤ S) = false by simp; omega]; rfl
    go_wp2
    go_ret
    exact ⟨by rw [HNo.out]; rfl, HB.out⟩
  by_cases hS2 : (rn : Int) = S
  case neg =>
    have hS3 : ((rn : Int) != S) = true := by simp [hS2]
    have hS4 : ((rn : Int) == S) = false := by simp [hS2]
    have HNo : Hid (rightOf M = false) := by show _ = _; rw [HRO.out, show decide ((rn : Int) = S) = false by simp [hS2]]; simp
    go_wp2
    go_ret
    exact ⟨by rw [HNo.out]; rfl, HB.out⟩
  case pos =>
  have hS3 : ((rn : Int) != S) = false := by simp [hS2]
  have hS4 : ((rn : Int) == S) = true := by simp [hS2]
  have hd1 : decide (S < 1) = false := by simp; omega
  have HR2 : Hid (rightOf M = M.es.all (okE S)) := by show _ = _; rw [HRO.out, show decide (1 ≤ S) = true by simp; omega, show decide ((rn : Int) = S) = true by simp [hS2]]; simp
  clear HRO
  have HSr : Hid ((rn : Int) = S) := hS2
  clear hS2
  go_wp2_with fail
  clear x0 x1 x2
  go_loopw [3] (fun i u => ∃ j : Nat, i = .int .i64 (j : Nat) ∧ j ≤ n ∧ Hid ((M.es.take j).all (okE S) = true) ∧ Hid (Below w2.heap.size w2 u)) (fun i _ => n - (intOf i).toNat)
  case atStart => exact ⟨0, rfl, Nat.zero_le _, by show _ = _; simp, Below.refl _ _⟩
  case round =>
    obtain ⟨j, rfl, hjn, HAL, HBj⟩ := hrel
    obtain ⟨x0, x1, x2⟩ := (HNX.out.later HBj.out).cells
    simp only at x0 x1 x2
    by_cases hlt : j < n
    · have hlt' : (j : Int) < (n : Int) := by omega
      obtain ⟨e, hee⟩ : ∃ e, M.es[j]? = some e := ⟨_, List.getElem?_eq_getElem (by rw [HN.out.1]; exact hlt)⟩
      have HBw : Hid (Below w.heap.size w wr) := below_step HB.out HBj.out
      have HE2 := HE.out
      obtain ⟨b, off, rfl, p0, p1, p2, p3, p4, p5, p6⟩ := (HE2.keep (w' := wr) (fun _ h _ => h) (fun k _ hk => HBw.out.block k hk)).nth hee
      have HEE : Hid (M.es[j]? = some e) := hee
      clear hee HE2
      have kk : Below wr.heap.size wr (wr.alloc (.cells #[.int .i64 e.k, .int .i64 e.f, .int .i64 e.t, .int .u64 (Oct.word e.s 0 : Nat), .int .u64 (Oct.word e.s 1 : Nat), .int .u64 (Oct.word e.s 2 : Nat), .int .u64 (Oct.word e.s 3 : Nat)] 57)) := (Below.refl _ _).alloc (Nat.le_refl _) _
      have HK4 : Hid (Below w2.heap.size w2 (wr.alloc (.cells #[.int .i64 e.k, .int .i64 e.f, .int .i64 e.t, .int .u64 (Oct.word e.s 0 : Nat), .int .u64 (Oct.word e.s 1 : Nat), .int .u64 (Oct.word e.s 2 : Nat), .int .u64 (Oct.word e.s 3 : Nat)] 57))) := below_step HBj.out kk
      have HG4 : Hid ((wr.alloc (.cells #[.int .i64 e.k, .int .i64 e.f, .int .i64 e.t, .int .u64 (Oct.word e.s 0 : Nat), .int .u64 (Oct.word e.s 1 : Nat), .int .u64 (Oct.word e.s 2 : Nat), .int .u64 (Oct.word e.s 3 : Nat)] 57)).heap[wr.heap.size]? = some (.cells #[.int .i64 e.k, .int .i64 e.f, .int .i64 e.t, .int .u64 (Oct.word e.s 0 : Nat), .int .u64 (Oct.word e.s 1 : Nat), .int .u64 (Oct.word e.s 2 : Nat), .int .u64 (Oct.word e.s 3 : Nat)] 57 (0, 0))) := heap_alloc_new wr _
      clear kk
      go_upto_region 7 with fail
      obtain ⟨w4, hw4⟩ : ∃ w4, wr.alloc (.cells #[.int .i64 e.k, .int .i64 e.f, .int .i64 e.t, .int .u64 (Oct.word e.s 0 : Nat), .int .u64 (Oct.word e.s 1 : Nat), .int .u64 (Oct.word e.s 2 : Nat), .int .u64 (Oct.word e.s 3 : Nat)] 57) = w4 := ⟨_, rfl⟩
      obtain ⟨G, hG⟩ : ∃ G, wr.heap.size = G := ⟨_, rfl⟩
      rw [hw4] at HK4 HG4 ⊢
      rw [hG] at HG4 ⊢
      clear hw4 hG p0 p1 p2 p3 p4 p5 p6 x0 x1 x2
      have HB4 : Hid (Below w.heap.size w w4) := below_step HB.out HK4.out
      obtain ⟨x0, x1, x2⟩ := (HNX.out.later HK4.out).cells
      simp only at x0 x1 x2
      have g0 : w4.cell? ⟨G, 0, none⟩ = some (.int .i64 e.k) := by simp [World.cell?, HG4.out]
      have g1 : w4.cell? ⟨G, 1, none⟩ = some (.int .i64 e.f) := by simp [World.cell?, HG4.out]
      have g2 : w4.cell? ⟨G, 2, none⟩ = some (.int .i64 e.t) := by simp [World.cell?, HG4.out]
      have g3 : w4.cell? ⟨G, 3, none⟩ = some (.int .u64 (Oct.word e.s 0 : Nat)) := by simp [World.cell?, HG4.out]
      have g4 : w4.cell? ⟨G, 4, none⟩ = some (.int .u64 (Oct.word e.s 1 : Nat)) := by simp [World.cell?, HG4.out]
      have g5 : w4.cell? ⟨G, 5, none⟩ = some (.int .u64 (Oct.word e.s 2 : Nat)) := by simp [World.cell?, HG4.out]
      have g6 : w4.cell? ⟨G, 6, none⟩ = some (.int .u64 (Oct.word e.s 3 : Nat)) := by simp [World.cell?, HG4.out]
      have hSM : M.S = S := HS.out
      have hq := eq4_zero (Oct.word e.s 0) (Oct.word e.s 1) (Oct.word e.s 2) (Oct.word e.s 3) w4
      rw [show (decide (Oct.word e.s 0 = 0) && decide (Oct.word e.s 1 = 0) && decide (Oct.word e.s 2 = 0) && decide (Oct.word e.s 3 = 0)) = noSet e.s from rfl] at hq
      obtain ⟨z, hz⟩ : ∃ z, noSet e.s = z := ⟨_, rfl⟩
      rw [hz] at hq
      have HZ : Hid (noSet e.s = z) := hz
      have HSM : Hid (M.S = S) := hSM
      clear hz hSM
      by_cases h1 : e.k < 1
      · have HNo : Hid (rightOf M = false) := right_no HEE.out (by unfold okE; rw [HSM.out]; simp; omega)
        go_wp2
        go_ret
        exact ⟨by rw [HNo.out]; rfl, HB4.out⟩
      by_cases h2 : 4 < e.k
      · have HNo : Hid (rightOf M = false) := right_no HEE.out (by unfold okE; rw [HSM.out]; simp; omega)
        go_wp2
        go_ret
        exact ⟨by rw [HNo.out]; rfl, HB4.out⟩
      by_cases h3 : e.f < 0
      · have HNo : Hid (rightOf M = false) := right_no HEE.out (by unfold okE; rw [HSM.out]; simp; omega)
        go_wp2
        go_ret
        exact ⟨by rw [HNo.out]; rfl, HB4.out⟩
      by_cases h4 : S ≤ e.f
      · have HNo : Hid (rightOf M = false) := right_no HEE.out (by unfold okE; rw [HSM.out]; simp; omega)
        go_wp2
        go_ret
        exact ⟨by rw [HNo.out]; rfl, HB4.out⟩
      by_cases h5 : e.t < 0
      · have HNo : Hid (rightOf M = false) := right_no HEE.out (by unfold okE; rw [HSM.out]; simp; omega)
        go_wp2
        go_ret
        exact ⟨by rw [HNo.out]; rfl, HB4.out⟩
      by_cases h6 : S ≤ e.t
      · have HNo : Hid (rightOf M = false) := right_no HEE.out (by unfold okE; rw [HSM.out]; simp; omega)
        go_wp2
        go_ret
        exact ⟨by rw [HNo.out]; rfl, HB4.out⟩
      by_cases h7 : e.k = 2
      · have HOK : Hid (okE S e = true) := by show _ = _; unfold okE; simp [h7]; omega
        have h7a : (e.k != 2) = false := by simp [h7]
        have h7b : (e.k == 2) = true := by simp [h7]
        have HA2 : Hid ((M.es.take (j + 1)).all (okE S) = true) := by show _ = _; rw [List.take_add_one, HEE.out]; simp only [Option.toList_some, List.all_append, HAL.out, List.all_cons, HOK.out, List.all_nil, Bool.and_self]
        go_wp2
        go_roundw
        case rel => exact ⟨j + 1, by go_num, by omega, HA2, HK4⟩
        case measure => simp [intOf]; omega
      have h7a : (e.k != 2) = true := by simp [h7]
      have h7b : (e.k == 2) = false := by simp [h7]
      cases z with
      | false =>
        have HNo : Hid (rightOf M = false) := right_no HEE.out (by unfold okE; rw [HZ.out]; simp [h7])
        go_wp2
        go_ret
        exact ⟨by rw [HNo.out]; rfl, HB4.out⟩
      | true =>
        have HOK : Hid (okE S e = true) := by show _ = _; unfold okE; rw [HZ.out]; simp; omega
        have HA2 : Hid ((M.es.take (j + 1)).all (okE S) = true) := by show _ = _; rw [List.take_add_one, HEE.out]; simp only [Option.toList_some, List.all_append, HAL.out, List.all_cons, HOK.out, List.all_nil, Bool.and_self]
        go_wp2
        go_roundw
        case rel => exact ⟨j + 1, by go_num, by omega, HA2, HK4⟩
        case measure => simp [intOf]; omega
    · have hlt' : ¬ (j : Int) < (n : Int) := by omega
      have HBw : Hid (Below w.heap.size w wr) := below_step HB.out HBj.out
      have HYes : Hid (rightOf M = true) := by
        show _ = _
        rw [HR2.out, ← HAL.out, List.take_of_length_le (by rw [HN.out.1]; omega)]
      go_wp2
      go_ret
      exact ⟨by rw [HYes.out]; rfl, HBw.out⟩
end Go.Proofs.Ytjmbimgofceanaa

/- heronref07's Same of two machines that are the same. -/
namespace Go.Proofs.Ytjmbimgofceanaa
open Go.RowKit
attribute [local go_sem ↓] Go.wp_at_zero Go.wp_at_succ

set_option maxRecDepth 4000 in
set_option maxHeartbeats 16000000 in
theorem same_any {X Y : Nat → Prop} {M : Ma} {x y : Nf} (w : World) (hx : MaAt X w M x) (hy : MaAt Y w M y) (he : M.es.length ≤ 100000000) (hr : M.rs.length ≤ 100000000) : Calls Try.prog 19 #[x.val, y.val] w fun e w' => e = .returned (.bool true) ∧ Below w.heap.size w w' := by
  have kk : Below w.heap.size w ((w.alloc (.cells #[.int .i64 x.S, .slice x.ea x.en x.ec, .slice x.ra x.rn x.rc] 38)).alloc (.cells #[.int .i64 y.S, .slice y.ea y.en y.ec, .slice y.ra y.rn y.rc] 38)) := ((Below.refl _ _).alloc (Nat.le_refl _) _).alloc (by simp) _
  have HNX : Hid (NFB ((w.alloc (.cells #[.int .i64 x.S, .slice x.ea x.en x.ec, .slice x.ra x.rn x.rc] 38)).alloc (.cells #[.int .i64 y.S, .slice y.ea y.en y.ec, .slice y.ra y.rn y.rc] 38)) w.heap.size x) := (nfb_new w x).later ((Below.refl _ _).alloc (Nat.le_refl _) _)
  have HNY : Hid (NFB ((w.alloc (.cells #[.int .i64 x.S, .slice x.ea x.en x.ec, .slice x.ra x.rn x.rc] 38)).alloc (.cells #[.int .i64 y.S, .slice y.ea y.en y.ec, .slice y.ra y.rn y.rc] 38)) (w.heap.size + 1) y) := by
    have h1 := nfb_new (w.alloc (.cells #[.int .i64 x.S, .slice x.ea x.en x.ec, .slice x.ra x.rn x.rc] 38)) y
    rw [show (w.alloc (.cells #[.int .i64 x.S, .slice x.ea x.en x.ec, .slice x.ra x.rn x.rc] 38)).heap.size = w.heap.size + 1 by simp] at h1
    exact h1
  have HB : Hid (Below w.heap.size w ((w.alloc (.cells #[.int .i64 x.S, .slice x.ea x.en x.ec, .slice x.ra x.rn x.rc] 38)).alloc (.cells #[.int .i64 y.S, .slice y.ea y.en y.ec, .slice y.ra y.rn y.rc] 38))) := kk
  obtain ⟨w2, hw2⟩ : ∃ w2, ((w.alloc (.cells #[.int .i64 x.S, .slice x.ea x.en x.ec, .slice x.ra x.rn x.rc] 38)).alloc (.cells #[.int .i64 y.S, .slice y.ea y.en y.ec, .slice y.ra y.rn y.rc] 38)) = w2 := ⟨_, rfl⟩
  rw [hw2] at HNX HNY HB
  obtain ⟨A, hA⟩ : ∃ A, w.heap.size = A := ⟨_, rfl⟩
  obtain ⟨C, hC⟩ : ∃ C, w.heap.size + 1 = C := ⟨_, rfl⟩
  rw [hA] at HNX
  rw [hC] at HNY
  have HW2 : Hid (((w.alloc (.cells #[.int .i64 x.S, .slice x.ea x.en x.ec, .slice x.ra x.rn x.rc] 38)).alloc (.cells #[.int .i64 y.S, .slice y.ea y.en y.ec, .slice y.ra y.rn y.rc] 38)) = w2) := hw2
  have HAA : Hid (w.heap.size = A) := hA
  have HCC : Hid (w.heap.size + 1 = C) := hC
  have HX : Hid (MaAt X w M x) := hx
  have HY : Hid (MaAt Y w M y) := hy
  clear hw2 hA hC kk hx hy
  obtain ⟨xS, xa, xn, xc, xra, xrn, xrc⟩ := x
  obtain ⟨yS, ya, yn, yc, yra, yrn, yrc⟩ := y
  have e1 : xS = M.S := HX.out.s
  have e2 : yS = M.S := HY.out.s
  have e3 : xn = M.es.length := HX.out.n
  have e4 : yn = M.es.length := HY.out.n
  have e5 : xrn = M.rs.length := HX.out.r
  have e6 : yrn = M.rs.length := HY.out.r
  subst e1 e2 e3 e4 e5 e6
  obtain ⟨n, hn⟩ : ∃ n, M.es.length = n := ⟨_, rfl⟩
  obtain ⟨rn, hrn⟩ : ∃ rn, M.rs.length = rn := ⟨_, rfl⟩
  have HE : Hid (EAt X w xa M.es ∧ EAt Y w ya M.es) := ⟨HX.out.e, HY.out.e⟩
  have HU : Hid (UAt X w xra M.rs ∧ UAt Y w yra M.rs) := ⟨HX.out.u, HY.out.u⟩
  have HN : Hid (M.es.length = n ∧ M.rs.length = rn) := ⟨hn, hrn⟩
  rw [hn] at HNX HNY HW2 he
  rw [hrn] at HNX HNY HW2 hr
  unfold Nf.val
  simp only at HW2 ⊢
  rw [hn, hrn]
  clear hn hrn HX HY
  obtain ⟨S, hS⟩ : ∃ S, M.S = S := ⟨_, rfl⟩
  rw [hS] at HNX HNY HW2 ⊢
  clear hS
  go_enter Try.func19, Try.ntmps19
  go_upto_region 1 with fail
  rw [HW2.out, HCC.out, HAA.out]
  clear HW2
  obtain ⟨x0, x1, x2⟩ := HNX.out.cells
  obtain ⟨y0, y1, y2⟩ := HNY.out.cells
  simp only at x0 x1 x2 y0 y1 y2
  go_wp2_with fail
  clear x0 x1 x2 y0 y1 y2
  go_loopw [5] (fun i u => ∃ j : Nat, i = .int .i64 (j : Nat) ∧ j ≤ n ∧ Hid (Below w2.heap.size w2 u)) (fun i _ => n - (intOf i).toNat)
  case atStart => exact ⟨0, rfl, Nat.zero_le _, Below.refl _ _⟩
  case round =>
    obtain ⟨j, rfl, hjn, HBj⟩ := hrel
    obtain ⟨x0, x1, x2⟩ := (HNX.out.later HBj.out).cells
    obtain ⟨y0, y1, y2⟩ := (HNY.out.later HBj.out).cells
    simp only at x0 x1 x2 y0 y1 y2
    by_cases hlt : j < n
    · have hlt' : (j : Int) < (n : Int) := by omega
      obtain ⟨e, hee⟩ : ∃ e, M.es[j]? = some e := ⟨_, List.getElem?_eq_getElem (by rw [HN.out.1]; exact hlt)⟩
      have HBw : Hid (Below w.heap.size w wr) := below_step HB.out HBj.out
      have HE2 := HE.out
      obtain ⟨b, off, rfl, p0, p1, p2, p3, p4, p5, p6⟩ := (HE2.1.keep (w' := wr) (fun _ h _ => h) (fun k _ hk => HBw.out.block k hk)).nth hee
      obtain ⟨b', off', rfl, q0, q1, q2, q3, q4, q5, q6⟩ := (HE2.2.keep (w' := wr) (fun _ h _ => h) (fun k _ hk => HBw.out.block k hk)).nth hee
      have heq : ∀ u : World, (Op.equalIn 10000 57 (.agg #[.int .i64 e.k, .int .i64 e.f, .int .i64 e.t, .int .u64 (Oct.word e.s 0 : Nat), .int .u64 (Oct.word e.s 1 : Nat), .int .u64 (Oct.word e.s 2 : Nat), .int .u64 (Oct.word e.s 3 : Nat)]) (.agg #[.int .i64 e.k, .int .i64 e.f, .int .i64 e.t, .int .u64 (Oct.word e.s 0 : Nat), .int .u64 (Oct.word e.s 1 : Nat), .int .u64 (Oct.word e.s 2 : Nat), .int .u64 (Oct.word e.s 3 : Nat)])).run Try.prog u = .ok true u := fun u => eq7_same _ _ _ _ _ _ _ u
      have HBd : Hid (Below w2.heap.size w2 wr.drew) := HBj.out.drew
      clear hee HE2
      go_upto_region 6 with fail
      go_region
      all_goals
        go_wp2
        go_roundw
        case rel => exact ⟨j + 1, by go_num, by omega, HBd⟩
        case measure => simp [intOf]; omega
    · have hlt' : ¬ (j : Int) < (n : Int) := by omega
      go_wp2_with fail
      clear x0 x1 x2 y0 y1 y2 hlt hlt' hjn
      obtain ⟨w3, hw3⟩ : ∃ w3 : World, w3 = wr := ⟨_, rfl⟩
      subst hw3
      go_loopw [6] (fun i u => ∃ j : Nat, i = .int .i64 (j : Nat) ∧ j ≤ rn ∧ Hid (Below w2.heap.size w2 u)) (fun i _ => rn - (intOf i).toNat)
      case atStart => exact ⟨0, rfl, Nat.zero_le _, HBj⟩
      case round =>
        clear HBj
        obtain ⟨j, rfl, hjn, HBj⟩ := hrel
        obtain ⟨x0, x1, x2⟩ := (HNX.out.later HBj.out).cells
        obtain ⟨y0, y1, y2⟩ := (HNY.out.later HBj.out).cells
        simp only at x0 x1 x2 y0 y1 y2
        by_cases hlt : j < rn
        · have hlt' : (j : Int) < (rn : Int) := by omega
          obtain ⟨e, hee⟩ : ∃ e, M.rs[j]? = some e := ⟨_, List.getElem?_eq_getElem (by rw [HN.out.2]; exact hlt)⟩
          have HBw : Hid (Below w.heap.size w wr) := below_step HB.out HBj.out
          have HU2 := HU.out
          obtain ⟨b, off, rfl, p0⟩ := (HU2.1.keep (w' := wr) (fun _ h _ => h) (fun k _ hk => HBw.out.block k hk)).nth hee
          obtain ⟨b', off', rfl, q0⟩ := (HU2.2.keep (w' := wr) (fun _ h _ => h) (fun k _ hk => HBw.out.block k hk)).nth hee
          have HBd : Hid (Below w2.heap.size w2 wr.drew) := HBj.out.drew
          clear hee HU2
          go_upto_region 11 with fail
          go_region
          all_goals
            go_wp2
            go_roundw
            case rel => exact ⟨j + 1, by go_num, by omega, HBd⟩
            case measure => simp [intOf]; omega
        · have hlt' : ¬ (j : Int) < (rn : Int) := by omega
          have HBw : Hid (Below w.heap.size w wr) := below_step HB.out HBj.out
          go_wp2
          go_ret
          exact ⟨rfl, HBw.out⟩
end Go.Proofs.Ytjmbimgofceanaa

/- The union of machines: plain; a list of machines in memory; the union under way. -/
namespace Go.Proofs.Ytjmbimgofceanaa
open Go.RowKit

def shiftE (a : Int) (e : Eg) : Eg := ⟨e.k, e.f + a, e.t + a, e.s⟩
def addM (o M : Ma) : Ma := ⟨o.S + M.S, o.es ++ [⟨1, 0, o.S, Oct.none⟩] ++ M.es.map (shiftE o.S), o.rs ++ M.rs⟩
def unions : List Ma → Ma → Ma
  | [], o => o
  | M :: Ms, o => unions Ms (addM o M)
def unionOf (Ms : List Ma) : Ma × Nat := if Ms.all rightOf then (unions Ms ⟨1, [], [0]⟩, 0) else (zeroMa, 70)
theorem unions_le : ∀ (Ms : List Ma) (o : Ma), o.es.length ≤ (unions Ms o).es.length ∧ o.rs.length ≤ (unions Ms o).rs.length
  | [], _ => ⟨Nat.le_refl _, Nat.le_refl _⟩
  | M :: Ms, o => by
    have h := unions_le Ms (addM o M)
    rw [unions]
    simp only [addM, List.length_append, List.length_cons, List.length_nil, List.length_map] at h
    simp only [addM] at h ⊢
    omega
theorem unions_has : ∀ (Ms : List Ma) (o : Ma), ∀ M ∈ Ms, M.es.length ≤ (unions Ms o).es.length ∧ M.rs.length ≤ (unions Ms o).rs.length
  | [], _, M, h => by cases h
  | M' :: Ms, o, M, h => by
    rw [unions]
    rcases List.mem_cons.1 h with rfl | h
    · have h1 := unions_le Ms (addM o M)
      simp only [addM, List.length_append, List.length_cons, List.length_nil, List.length_map] at h1
      simp only [addM] at h1 ⊢
      omega
    · exact unions_has Ms (addM o M') M h
theorem unions_step {Ms : List Ma} {i : Nat} {M : Ma} (h : Ms[i]? = some M) (o : Ma) : unions (Ms.drop i) o = unions (Ms.drop (i + 1)) (addM o M) := by
  have hlt := (List.getElem?_eq_some_iff.1 h).1
  rw [List.drop_eq_getElem_cons hlt, (List.getElem?_eq_some_iff.1 h).2, unions]
theorem right_parts {M : Ma} (h : rightOf M = true) : 1 ≤ M.S ∧ (M.rs.length : Int) = M.S ∧ ∀ e ∈ M.es, 0 ≤ e.f ∧ e.f < M.S ∧ 0 ≤ e.t ∧ e.t < M.S := by
  unfold rightOf at h
  simp only [Bool.and_eq_true, decide_eq_true_eq, List.all_eq_true] at h
  refine ⟨h.1.1, h.1.2, fun e he => ?_⟩
  have := h.2 e he
  unfold okE at this
  simp at this
  omega
/-! ### lists of machines in memory -/
def flatM (xs : List Nf) : List Value := xs.flatMap Nf.cells
theorem flatM_at {xs : List Nf} {i : Nat} {x : Nf} (h : xs[i]? = some x) {m : Nat} (hm : m < 3) : (flatM xs)[3 * i + m]? = x.cells[m]? := by
  induction xs generalizing i with
  | nil => simp at h
  | cons y r ih =>
    have hf : flatM (y :: r) = y.cells ++ flatM r := by simp [flatM]
    have hy : y.cells.length = 3 := rfl
    rw [hf]
    cases i with
    | zero =>
      simp at h
      subst h
      rw [List.getElem?_append_left (by omega)]
      simp
    | succ i =>
      rw [List.getElem?_append_right (by omega), hy, show 3 * (i + 1) + m - 3 = 3 * i + m by omega]
      exact ih (by simpa using h)
def LAt (w : World) (a : Option Addr) (xs : List Nf) : Prop := xs = [] ∨ ∃ b off, a = some ⟨b, off, none⟩ ∧ ∀ j v, (flatM xs)[j]? = some v → w.cell? ⟨b, off + j, none⟩ = some v
theorem LAt.nth {w : World} {a : Option Addr} {xs : List Nf} (h : LAt w a xs) {i : Nat} {x : Nf} (hx : xs[i]? = some x) : ∃ b off, a = some ⟨b, off, none⟩ ∧ w.cell? ⟨b, off + i * 3, none⟩ = some (.int .i64 x.S) ∧ w.cell? ⟨b, off + i * 3 + 1, none⟩ = some (.slice x.ea x.en x.ec) ∧ w.cell? ⟨b, off + i * 3 + 2, none⟩ = some (.slice x.ra x.rn x.rc) := by
  rcases h with h | ⟨b, off, ha, hc⟩
  · subst h; simp at hx
  · rw [Nat.mul_comm i 3]
    refine ⟨b, off, ha, ?_, ?_, ?_⟩
    · exact hc _ _ (flatM_at hx (m := 0) (by decide))
    · rw [Nat.add_assoc]; exact hc _ _ (flatM_at hx (m := 1) (by decide))
    · rw [Nat.add_assoc]; exact hc _ _ (flatM_at hx (m := 2) (by decide))
theorem LAt.later {w w' : World} {a : Option Addr} {xs : List Nf} (h : LAt w a xs) (hb : Below w.heap.size w w') : LAt w' a xs := by
  rcases h with h | ⟨b, off, rfl, hc⟩
  · exact Or.inl h
  · refine Or.inr ⟨b, off, rfl, fun j v hj => ?_⟩
    have h1 := hc j v hj
    exact (World.cell?_of_block (a := ⟨b, off + j, none⟩) (hb.block b (lt_of_cell h1))).trans h1
/-- A LIST OF MACHINES IN MEMORY. -/
structure ListAt (w : World) (a : Option Addr) (Ms : List Ma) (xs : List Nf) : Prop where
  at_ : LAt w a xs
  len : xs.length = Ms.length
  ma : ∀ (i : Nat) (M : Ma) (x : Nf), Ms[i]? = some M → xs[i]? = some x → MaAt (fun _ => True) w M x
theorem ListAt.later {w w' : World} {a : Option Addr} {Ms : List Ma} {xs : List Nf} (h : ListAt w a Ms xs) (hb : Below w.heap.size w w') : ListAt w' a Ms xs :=
  ⟨h.at_.later hb, h.len, fun i M x hM hx => (h.ma i M x hM hx).later hb⟩
/-! ### appends -/
theorem wpList_append_edge {w : World} {ops : Array Oper} {rest : List Oper} {o : Oper} {a : Act} {Q : Exit → Act → World → Prop} (hgd : o.guard = none) (s y : Operand)
    (ho : o.op = .call { callee := .builtin .append, args := #[s, y], argTypes := #[35, 35] })
    (base n : Nat) (V : Value) (es : List Eg) (hs : a.eval s = V) (hlen : es.length = n) (hn : RowE w base V es) (ad : Addr) (cap : Nat) (e : Eg) (hy : a.eval y = .slice (some ad) 1 cap) (hc : ∀ j v, e.cells[j]? = some v → w.cell? (ad.add j) = some v) (hl : n ≤ 20000000) (hb : base ≤ w.heap.size)
    (h : ∀ g cap' w', RowE w' base (.slice (some ⟨g, 0, none⟩) (n + 1) cap') (es ++ [e]) → w.grownBy w' V.ownBlock → wpList Try.prog ops Q rest (a.put o.dst (.slice (some ⟨g, 0, none⟩) (n + 1) cap')) w') : wpList Try.prog ops Q (o :: rest) a w := by
  refine wpList_plain hgd fun K hK => ?_
  subst hlen
  obtain ⟨i0, hi, hz0, hz1, hz2⟩ := info_parts infoE
  obtain ⟨g, cap', w', hr, ho2, hg, hgg, hlt⟩ := run_append_lies (P := Try.prog) w 35 o.type base 57 i0 _ 7 56 Try.underlying35 hi hz0 hz1 hz2 rfl (by decide) V es.length _ hn ad 1 cap e.cells rfl hc
    (by have := flatE_one [e]; simpa [flatE] using this) (by decide) (by simp only [maxLen]; omega) (by omega) hb w.heap.size rfl
  unfold Oper.wp execOp
  simp only [ho, resolve, invoke, builtin, Sem.run_bind, Sem.run_pure, Result.andThen_ok, List.map_toArray, List.map_cons, List.map_nil, hs, hy, hr]
  exact hK _ _ (h g cap' w' (rowE_snoc rfl ho2) hg)
theorem wpList_append_words {w : World} {ops : Array Oper} {rest : List Oper} {o : Oper} {a : Act} {Q : Exit → Act → World → Prop} (hgd : o.guard = none) (s y : Operand)
    (ho : o.op = .call { callee := .builtin .append, args := #[s, y], argTypes := #[36, 36] })
    (base n m : Nat) (V : Value) (rs ts : List Nat) (hs : a.eval s = V) (hlen : rs.length = n) (hn : RowU w base V rs) (b off : Nat) (cap : Nat) (hy : a.eval y = .slice (some ⟨b, off, none⟩) m cap) (hm : ts.length = m) (hm0 : 0 < m) (hc : ∀ j x, ts[j]? = some x → w.cell? ⟨b, off + j, none⟩ = some (.int .u32 (x : Nat))) (hl : n + m ≤ 20000000) (hb : base ≤ w.heap.size)
    (h : ∀ g cap' w', RowU w' base (.slice (some ⟨g, 0, none⟩) (n + m) cap') (rs ++ ts) → w.grownBy w' V.ownBlock → wpList Try.prog ops Q rest (a.put o.dst (.slice (some ⟨g, 0, none⟩) (n + m) cap')) w') : wpList Try.prog ops Q (o :: rest) a w := by
  refine wpList_plain hgd fun K hK => ?_
  subst hlen hm
  obtain ⟨i0, hi, hz0, hz1, hz2⟩ := info_parts infoU
  obtain ⟨g, cap', w', hr, ho2, hg, hgg, hlt⟩ := run_append_lies (P := Try.prog) w 36 o.type base 44 i0 _ 1 4 Try.underlying36 hi hz0 hz1 hz2 rfl (by decide) V rs.length _ hn ⟨b, off, none⟩ ts.length cap (wds ts) (by rw [wds_length, Nat.mul_one])
    (fun j v hj => by
      unfold wds at hj
      rw [List.getElem?_map] at hj
      cases hx : ts[j]? with
      | none => rw [hx] at hj; cases hj
      | some x =>
        rw [hx] at hj
        cases hj
        rw [Go.WideShapes.add_plain]
        exact hc j x hx) (fun v hv => by
      unfold wds at hv
      obtain ⟨x, _, rfl⟩ := List.mem_map.1 hv
      rfl) hm0 (by simp only [maxLen]; omega) (by omega) hb w.heap.size rfl
  unfold Oper.wp execOp
  simp only [ho, resolve, invoke, builtin, Sem.run_bind, Sem.run_pure, Result.andThen_ok, List.map_toArray, List.map_cons, List.map_nil, hs, hy, hr]
  refine hK _ _ (h g cap' w' ?_ hg)
  unfold RowU
  rw [List.length_append]
  have e : wds (rs ++ ts) = wds rs ++ wds ts := by simp [wds]
  rw [e]
  exact ho2
/-! ### the union under way -/
/-- THE STATE of Union: the machine so far, in block O; the answer's block R. -/
structure Un (w : World) (O R : Nat) (u : World) (x : Nf) (o : Ma) : Prop where
  nf : NFB u O x
  res : NFB u R ⟨0, none, 0, 0, none, 0, 0⟩
  s : x.S = o.S
  e : RowE u w.heap.size (.slice x.ea x.en x.ec) o.es
  r : RowU u w.heap.size (.slice x.ra x.rn x.rc) o.rs
  low : Below w.heap.size w u
  hO : w.heap.size ≤ O
  hR : w.heap.size ≤ R
  ne : R ≠ O
section
variable {w : World} {O R : Nat} {u u' : World} {x : Nf} {o : Ma}
theorem Un.later (h : Un w O R u x o) (hb : Below u.heap.size u u') : Un w O R u' x o :=
  ⟨h.nf.later hb, h.res.later hb, h.s, h.e.later hb, h.r.later hb, below_step h.low hb, h.hO, h.hR, h.ne⟩
theorem Un.en (h : Un w O R u x o) : x.en = o.es.length := h.e.at.1
theorem Un.rn (h : Un w O R u x o) : x.rn = o.rs.length := h.r.at.1
/-- the edges gone on in memory, not yet laid down -/
theorem Un.edge (h : Un w O R u x o) {V : Value} {e : Eg} {g cap : Nat} (hV : V = .slice (some ⟨g, 0, none⟩) (x.en + 1) cap) (hr : RowE u' w.heap.size V (o.es ++ [e])) (hg : u.grownBy u' (Value.slice x.ea x.en x.ec).ownBlock) :
    Un w O R (u'.setCell ⟨O, 1, none⟩ V) ⟨x.S, some ⟨g, 0, none⟩, x.en + 1, cap, x.ra, x.rn, x.rc⟩ ⟨o.S, o.es ++ [e], o.rs⟩ ∧ (∃ v, u'.cell? ⟨O, 1, none⟩ = some v) ∧ u'.frozen? ⟨O, 1, none⟩ = false ∧ ∀ (A : Nat) (y : Nf), NFB u A y → A ≠ O → NFB (u'.setCell ⟨O, 1, none⟩ V) A y := by
  subst hV
  have hown := h.e.ty
  have hst : ∀ {t : TypeId} {b : Nat}, TyB u t b → t ≠ 57 → u'.heap[b]? = u.heap[b]? := fun {t b} hb ht => by
    obtain ⟨c, z, hc⟩ := hb
    exact hg.block b (Array.getElem?_eq_some_iff.1 hc).1 (fun e => ht (TyB.ne ⟨c, z, hc⟩ (hown b e.symm).2))
  have h1 : u'.heap[O]? = _ := (hst h.nf.ty (by decide)).trans h.nf
  have h2 : NFB u' R _ := (hst h.res.ty (by decide)).trans h.res
  refine ⟨⟨heap_set h1 1 _, (Below.heap_setCell u' ⟨O, 1, none⟩ _ R h.ne).trans h2, h.s, hr.set (t := 38) ⟨_, _, h1⟩ (by decide) _ _, ?_, ?_, h.hO, h.hR, h.ne⟩, ⟨.slice x.ea x.en x.ec, by simp [World.cell?, h1]⟩, by simp [World.frozen?, h1], fun A y hA hne => (Below.heap_setCell u' ⟨O, 1, none⟩ _ A hne).trans ((hst hA.ty (by decide)).trans hA)⟩
  · exact (h.r.keep (w' := u') (fun b _ _ hb => hst hb (by decide))).set (t := 38) ⟨_, _, h1⟩ (by decide) _ _
  · refine Below.setCell (p := ⟨O, 1, none⟩) ⟨hg.os.trans h.low.os, hg.tape.trans h.low.tape, hg.output.trans h.low.output, Nat.le_trans h.low.size hg.size, fun k hk => (hg.block k (Nat.lt_of_lt_of_le hk h.low.size) (fun e => ?_)).trans (h.low.block k hk)⟩ h.hO _
    have := (hown k e.symm).1
    omega
theorem Un.words (h : Un w O R u x o) {V : Value} {ts : List Nat} {g n cap : Nat} (hV : V = .slice (some ⟨g, 0, none⟩) n cap) (hr : RowU u' w.heap.size V (o.rs ++ ts)) (hg : u.grownBy u' (Value.slice x.ra x.rn x.rc).ownBlock) :
    Un w O R (u'.setCell ⟨O, 2, none⟩ V) ⟨x.S, x.ea, x.en, x.ec, some ⟨g, 0, none⟩, n, cap⟩ ⟨o.S, o.es, o.rs ++ ts⟩ ∧ (∃ v, u'.cell? ⟨O, 2, none⟩ = some v) ∧ u'.frozen? ⟨O, 2, none⟩ = false ∧ ∀ (A : Nat) (y : Nf), NFB u A y → A ≠ O → NFB (u'.setCell ⟨O, 2, none⟩ V) A y := by
  subst hV
  have hown := h.r.ty
  have hst : ∀ {t : TypeId} {b : Nat}, TyB u t b → t ≠ 44 → u'.heap[b]? = u.heap[b]? := fun {t b} hb ht => by
    obtain ⟨c, z, hc⟩ := hb
    exact hg.block b (Array.getElem?_eq_some_iff.1 hc).1 (fun e => ht (TyB.ne ⟨c, z, hc⟩ (hown b e.symm).2))
  have h1 : u'.heap[O]? = _ := (hst h.nf.ty (by decide)).trans h.nf
  have h2 : NFB u' R _ := (hst h.res.ty (by decide)).trans h.res
  refine ⟨⟨heap_set h1 2 _, (Below.heap_setCell u' ⟨O, 2, none⟩ _ R h.ne).trans h2, h.s, ?_, hr.set (t := 38) ⟨_, _, h1⟩ (by decide) _ _, ?_, h.hO, h.hR, h.ne⟩, ⟨.slice x.ra x.rn x.rc, by simp [World.cell?, h1]⟩, by simp [World.frozen?, h1], fun A y hA hne => (Below.heap_setCell u' ⟨O, 2, none⟩ _ A hne).trans ((hst hA.ty (by decide)).trans hA)⟩
  · exact (h.e.keep (w' := u') (fun b _ _ hb => hst hb (by decide))).set (t := 38) ⟨_, _, h1⟩ (by decide) _ _
  · refine Below.setCell (p := ⟨O, 2, none⟩) ⟨hg.os.trans h.low.os, hg.tape.trans h.low.tape, hg.output.trans h.low.output, Nat.le_trans h.low.size hg.size, fun k hk => (hg.block k (Nat.lt_of_lt_of_le hk h.low.size) (fun e => ?_)).trans (h.low.block k hk)⟩ h.hO _
    have := (hown k e.symm).1
    omega
theorem Un.states (h : Un w O R u x o) (S : Int) : Un w O R (u.setCell ⟨O, 0, none⟩ (.int .i64 S)) ⟨S, x.ea, x.en, x.ec, x.ra, x.rn, x.rc⟩ ⟨S, o.es, o.rs⟩ :=
  ⟨heap_set h.nf 0 _, (Below.heap_setCell u ⟨O, 0, none⟩ _ R h.ne).trans h.res, rfl, h.e.set (t := 38) h.nf.ty (by decide) _ _, h.r.set (t := 38) h.nf.ty (by decide) _ _, h.low.setCell (p := ⟨O, 0, none⟩) h.hO _, h.hO, h.hR, h.ne⟩
end
end Go.Proofs.Ytjmbimgofceanaa

/- Sets of states as rows of bools; closing one under moves without a byte. -/
namespace Go.Proofs.Ytjmbimgofceanaa
open Go.RowKit

def bls (bs : List Bool) : List Value := bs.map Value.bool
theorem bls_length (bs : List Bool) : (bls bs).length = bs.length := List.length_map _
def RowB (w : World) (base : Nat) (V : Value) (bs : List Bool) : Prop := w.ownsRow base 4 1 V bs.length (bls bs)
theorem infoB : (Try.prog.info? 4).map (fun i => (i.zero, i.size, i.bytes)) = some (some (.bool false), 1, 1) := by kernel_rfl
section
variable {w w' : World} {base g n c : Nat} {bs : List Bool}
theorem RowB.cell (h : RowB w base (.slice (some ⟨g, 0, none⟩) n c) bs) {i : Nat} {x : Bool} (hx : bs[i]? = some x) : w.cell? ⟨g, i, none⟩ = some (.bool x) ∧ w.frozen? ⟨g, i, none⟩ = false := by
  have hlt := (List.getElem?_eq_some_iff.1 hx).1
  rcases h.2 with ⟨hv, _⟩ | ⟨g', cap, cur, hv, hbg, hg, h1, h2, h3, h4⟩
  · cases hv
  · cases hv
    have e : (bls bs)[i]? = some (.bool x) := by unfold bls; rw [List.getElem?_map, hx]; rfl
    rw [← h4, List.getElem?_take_of_lt (by omega)] at e
    refine ⟨?_, by simp [World.frozen?, hg]⟩
    simp only [World.cell?, hg]
    simpa using e
theorem RowB.put (h : RowB w base (.slice (some ⟨g, 0, none⟩) n c) bs) (i : Nat) (x : Bool) : RowB (w.setCell ⟨g, i, none⟩ (.bool x)) base (.slice (some ⟨g, 0, none⟩) n c) (bs.set i x) := by
  refine ⟨by simp [bls], ?_⟩
  rcases h.2 with ⟨hv, _⟩ | ⟨g', cap, cur, hv, hbg, hg, h1, h2, h3, h4⟩
  · cases hv
  · cases hv
    refine Or.inr ⟨g, c, _, by simp, hbg, heap_set hg i _, by simpa using h1, h2, by simpa using h3, ?_⟩
    rw [Array.toList_setIfInBounds, List.take_set]
    have e : bls (bs.set i x) = (bls bs).set i (.bool x) := by unfold bls; rw [List.map_set]
    rw [e, List.length_set, h4]
theorem RowB.same (h : RowB w base (.slice (some ⟨g, 0, none⟩) n c) bs) (e : w'.heap[g]? = w.heap[g]?) : RowB w' base (.slice (some ⟨g, 0, none⟩) n c) bs := by
  refine ⟨h.1, ?_⟩
  rcases h.2 with ⟨hv, _⟩ | ⟨g', cap, cur, hv, hbg, hg, rest⟩
  · cases hv
  · cases hv
    exact Or.inr ⟨g, c, cur, rfl, hbg, e.trans hg, rest⟩
theorem RowB.lt (h : RowB w base (.slice (some ⟨g, 0, none⟩) n c) bs) : g < w.heap.size ∧ n = bs.length ∧ base ≤ g := by
  rcases h.2 with ⟨hv, _⟩ | ⟨g', cap, cur, hv, hbg, hg, _⟩
  · cases hv
  · cases hv
    exact ⟨(Array.getElem?_eq_some_iff.1 hg).1, rfl, hbg⟩
theorem RowB.ty (h : RowB w base (.slice (some ⟨g, 0, none⟩) n c) bs) : TyB w 4 g := by
  rcases h.2 with ⟨hv, _⟩ | ⟨g', cap, cur, hv, hbg, hg, _⟩
  · cases hv
  · cases hv
    exact ⟨_, _, hg⟩
end
/-- a move without a byte -/
def moves (b e : Bool) (x : Eg) : Bool := decide (x.k = 1) || (decide (x.k = 3) && b) || (decide (x.k = 4) && e)
def at_ (l : List Bool) (i : Int) : Bool := (l[i.toNat]?).getD false
/-- closed under such moves -/
def Closed (es : List Eg) (b e : Bool) (l : List Bool) : Prop := ∀ x ∈ es, moves b e x = true → at_ l x.f = true → at_ l x.t = true
def Sub (l m : List Bool) : Prop := l.length = m.length ∧ ∀ i : Nat, (l[i]?).getD false = true → (m[i]?).getD false = true
/-- THE CLOSURE of a set of states: the least that is closed. -/
structure Clo (es : List Eg) (b e : Bool) (l m : List Bool) : Prop where
  sub : Sub l m
  closed : Closed es b e m
  least : ∀ k, Sub l k → Closed es b e k → Sub m k
theorem Sub.refl (l : List Bool) : Sub l l := ⟨rfl, fun _ h => h⟩
theorem Sub.trans {l m k : List Bool} (h : Sub l m) (h2 : Sub m k) : Sub l k := ⟨h.1.trans h2.1, fun i hi => h2.2 i (h.2 i hi)⟩
theorem sub_set (l : List Bool) (i : Nat) : Sub l (l.set i true) := by
  refine ⟨by simp, fun j hj => ?_⟩
  rw [List.getElem?_set]
  split
  · split
    · rfl
    · rename_i h1 h2
      subst h1
      rw [List.getElem?_eq_none (by omega)] at hj
      simp at hj
  · exact hj
theorem set_sub {l k : List Bool} (h : Sub l k) {i : Nat} (hk : (k[i]?).getD false = true) : Sub (l.set i true) k := by
  refine ⟨by simpa using h.1, fun j hj => ?_⟩
  by_cases e : i = j
  · subst e; exact hk
  · rw [List.getElem?_set_ne e] at hj
    exact h.2 j hj
theorem count_set : ∀ {l : List Bool} {i : Nat}, l[i]? = some false → (l.set i true).count false + 1 = l.count false
  | [], i, h => by simp at h
  | x :: l, 0, h => by simp at h; subst h; simp
  | x :: l, i + 1, h => by
    have := count_set (l := l) (i := i) (by simpa using h)
    simp only [List.set_cons_succ, List.count_cons]
    omega
end Go.Proofs.Ytjmbimgofceanaa
