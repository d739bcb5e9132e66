/- heronlaw07's met. -/
import Derived.Test.YtjmbimgofceanaaG24
import Derived.Test.YtjmbimgofceanaaG01
namespace Go.Proofs.Ytjmbimgofceanaa
open Go.RowKit
attribute [local go_sem ↓] Go.wp_at_zero Go.wp_at_succ

set_option maxRecDepth 4000 in
set_option maxHeartbeats 64000000 in
theorem met_any {M : Ma} {x : Nf} {S : Nat} {line : ByteArray} (w : World) (hM : MaAt (fun _ => True) w M x) (hS : M.S = (S : Nat)) (hS1 : 1 ≤ S) (hSr : M.rs.length = S) (hS2 : S ≤ 10000000) (hE : M.es.length ≤ 10000000) (hR : ∀ y ∈ M.es, 0 ≤ y.f ∧ y.f < (S : Nat) ∧ 0 ≤ y.t ∧ y.t < (S : Nat)) (hU : ∀ r ∈ M.rs, r < 4294967296) (hL : line.size ≤ 1000000) :
    Calls Try.prog 16 #[x.val, .string line] w fun e w' => Below w.heap.size w w' ∧ ∃ R : Nat, e = .returned (.int .u32 (R : Nat)) ∧ Walks M S line 0 (List.replicate S false) 0 R := by
  have kk : Below w.heap.size w (w.alloc (.cells #[.int .i64 x.S, .slice x.ea x.en x.ec, .slice x.ra x.rn x.rc] 38)) := (Below.refl _ _).alloc (Nat.le_refl _) _
  have HNX : Hid (NFB (w.alloc (.cells #[.int .i64 x.S, .slice x.ea x.en x.ec, .slice x.ra x.rn x.rc] 38)) w.heap.size x) := nfb_new w x
  have HB : Hid (Below w.heap.size w (w.alloc (.cells #[.int .i64 x.S, .slice x.ea x.en x.ec, .slice x.ra x.rn x.rc] 38))) := kk
  obtain ⟨w1, hw1⟩ : ∃ w1, w.alloc (.cells #[.int .i64 x.S, .slice x.ea x.en x.ec, .slice x.ra x.rn x.rc] 38) = w1 := ⟨_, rfl⟩
  obtain ⟨A, hA⟩ : ∃ A, w.heap.size = A := ⟨_, rfl⟩
  rw [hw1] at HNX HB
  rw [hA] at HNX
  have HW1 : Hid (w.alloc (.cells #[.int .i64 x.S, .slice x.ea x.en x.ec, .slice x.ra x.rn x.rc] 38) = w1) := hw1
  have HAA : Hid (w.heap.size = A) := hA
  have HMA : Hid (MaAt (fun _ => True) w M x) := hM
  have HRG : Hid (∀ y ∈ M.es, 0 ≤ y.f ∧ y.f < (S : Nat) ∧ 0 ≤ y.t ∧ y.t < (S : Nat)) := hR
  have HRU : Hid (∀ r ∈ M.rs, r < 4294967296) := hU
  have HRS : Hid (M.rs.length = S) := hSr
  have HLE : Hid (M.es.length ≤ 10000000) := hE
  clear hw1 hA kk hM hR hU
  obtain ⟨xS, xa, en, xc, xra, xrn, xrc⟩ := x
  have e1 : xS = (S : Nat) := HMA.out.s.trans hS
  have e3 : en = M.es.length := HMA.out.n
  have e5 : xrn = S := HMA.out.r.trans hSr
  subst e1 e5
  have HEN : Hid (M.es.length = en) := e3.symm
  rw [← e3] at hE
  clear e3 hS hSr
  unfold Nf.val
  simp only at HW1 ⊢
  go_enter Try.func16, Try.ntmps16
  go_upto_region 1 with fail
  rw [HW1.out, HAA.out]
  clear HW1
  obtain ⟨x0, x1, x2⟩ := HNX.out.cells
  simp only at x0 x1 x2
  have HZ1 : Hid (w.heap.size ≤ w1.heap.size) := HB.out.size
  go_upto_region 3 with (first | (refine wpList_make_bool rfl _ _ rfl w.heap.size xrn HZ1.out rfl rfl (by omega) ?_; intro w2 hn2 hb2; have HR2 : Hid (RowB w2 w.heap.size _ (List.replicate xrn false)) := hn2; have HK2 : Hid (Below w1.heap.size w1 w2) := hb2; clear hn2 hb2) | fail)
  have HN2 : Hid (NFB w2 A ⟨(xrn : Nat), xa, en, xc, xra, xrn, xrc⟩) := HNX.out.later HK2.out
  have HB2 : Hid (Below w.heap.size w w2) := below_step HB.out HK2.out
  obtain ⟨g0, hg0⟩ : ∃ g0, w1.heap.size = g0 := ⟨_, rfl⟩
  rw [hg0] at HR2 ⊢
  have HG0 : Hid (A < g0) := by rw [← hg0]; exact HNX.out.lt
  clear hg0 HNX HB HK2 HZ1 x0 x1 x2
  go_wp2_with fail
  go_loopw [5, 6, 7] (fun rv vin i u => ∃ (j r : Nat) (cur : List Bool) (g : Nat), rv = .int .u32 (r : Nat) ∧ vin = .slice (some ⟨g, 0, none⟩) xrn xrn ∧ i = .int .i64 (j : Nat) ∧ j ≤ line.size ∧ r < 4294967296 ∧ Hid (RowB u w.heap.size (.slice (some ⟨g, 0, none⟩) xrn xrn) cur ∧ cur.length = xrn ∧ A < g) ∧ Hid (NFB u A ⟨(xrn : Nat), xa, en, xc, xra, xrn, xrc⟩) ∧ Hid (Below w.heap.size w u) ∧ Hid (∀ R, Walks M xrn line j cur r R → Walks M xrn line 0 (List.replicate xrn false) 0 R)) (fun _ _ i _ => line.size + 1 - (intOf i).toNat)
  case atStart => exact ⟨0, 0, List.replicate xrn false, g0, rfl, rfl, rfl, Nat.zero_le _, by decide, ⟨HR2.out, by simp, HG0.out⟩, HN2, HB2, fun _ h => h⟩
  case round =>
    clear HR2 HN2 HB2 HG0
    obtain ⟨j, r, cur, g, rfl, rfl, rfl, hj, hr, HRW, HNX, HB, HWK⟩ := hrel
    have hj' : (j : Int) ≤ (line.size : Int) := by omega
    obtain ⟨v0, hv0⟩ : ∃ v0, cur[0]? = some v0 := ⟨_, List.getElem?_eq_getElem (by rw [HRW.out.2.1]; omega)⟩
    obtain ⟨c0, f0⟩ := HRW.out.1.cell hv0
    clear hv0
    have HRW1 : Hid (RowB (wr.setCell ⟨g, 0, none⟩ (.bool true)) w.heap.size (.slice (some ⟨g, 0, none⟩) xrn xrn) (cur.set 0 true)) := HRW.out.1.put 0 true
    have HGA : Hid (A < g ∧ w.heap.size ≤ g ∧ g < wr.heap.size) := ⟨HRW.out.2.2, HRW.out.1.lt.2.2, HRW.out.1.lt.1⟩
    have HNX1 : Hid (NFB (wr.setCell ⟨g, 0, none⟩ (.bool true)) A ⟨(xrn : Nat), xa, en, xc, xra, xrn, xrc⟩) := (Below.heap_setCell wr ⟨g, 0, none⟩ _ A (fun e => by have e : A = g := e; have := HGA.out; omega)).trans HNX.out
    have HB1 : Hid (Below w.heap.size w (wr.setCell ⟨g, 0, none⟩ (.bool true))) := HB.out.setCell (p := ⟨g, 0, none⟩) HGA.out.2.1 _
    have hS0 : (0 : Int) < (xrn : Int) := by omega
    go_upto_region 7 with fail
    obtain ⟨w3, hw3⟩ : ∃ w3, wr.setCell ⟨g, 0, none⟩ (.bool true) = w3 := ⟨_, rfl⟩
    rw [hw3] at HRW1 HNX1 HB1 ⊢
    clear hw3 c0 f0 HNX HB
    obtain ⟨x0, x1, x2⟩ := HNX1.out.cells
    simp only at x0 x1 x2
    obtain ⟨b0, hb0⟩ : ∃ b0, decide (j = 0) = b0 := ⟨_, rfl⟩
    obtain ⟨b1, hb1⟩ : ∃ b1, decide (j = line.size) = b1 := ⟨_, rfl⟩
    have hb0' : ((j : Int) == 0) = b0 := by rw [← hb0, Bool.eq_iff_iff]; simp
    have hb1' : ((j : Int) == (line.size : Int)) = b1 := by rw [← hb1, Bool.eq_iff_iff]; simp; omega
    have HB01 : Hid (decide (j = 0) = b0 ∧ decide (j = line.size) = b1) := ⟨hb0, hb1⟩
    clear hb0 hb1
    have HC : Hid (Calls Try.prog 36 #[Nf.val ⟨(xrn : Nat), xa, en, xc, xra, xrn, xrc⟩, .slice (some ⟨g, 0, none⟩) xrn xrn, .bool b0, .bool b1] w3 _) := reach_any w3 (HMA.out.keep (w' := w3) (Y := fun b => b ≠ g) (fun b _ hlt e => by have := HGA.out; omega) (fun b _ hlt => HB1.out.block b hlt)) HLE.out HRG.out HRW1.out b0 b1
    unfold Nf.val at HC
    simp only at HC
    go_wp2_with fail
    refine HC.out.mono ?_
    rintro e w4 ⟨rfl, k4, cl, hcl, hrow4⟩
    have HCL : Hid (Clo M.es b0 b1 (cur.set 0 true) cl) := hcl
    have HRW4 : Hid (RowB w4 w.heap.size (.slice (some ⟨g, 0, none⟩) xrn xrn) cl) := hrow4
    have HNX4 : Hid (NFB w4 A ⟨(xrn : Nat), xa, en, xc, xra, xrn, xrc⟩) := (k4.block A HNX1.out.lt (fun e => by have e := Option.some.inj e; have := HGA.out; omega)).trans HNX1.out
    have HB4 : Hid (Below w.heap.size w w4) := ⟨k4.os.trans HB1.out.os, k4.tape.trans HB1.out.tape, k4.output.trans HB1.out.output, Nat.le_trans HB1.out.size k4.size, fun k hk => (k4.block k (Nat.lt_of_lt_of_le hk HB1.out.size) (fun e => by have e := Option.some.inj e; have := HGA.out; omega)).trans (HB1.out.block k hk)⟩
    have HLC : Hid (cl.length = xrn) := hcl.sub.1.symm.trans (by rw [List.length_set]; exact HRW.out.2.1)
    clear hcl hrow4 k4 HC HRW1 HNX1 HB1 x0 x1 x2 HRW
    go_wp2_with fail
    go_loopw [5, 35] (fun rv i u => ∃ k r' : Nat, rv = .int .u32 (r' : Nat) ∧ i = .int .i64 (k : Nat) ∧ k ≤ xrn ∧ r' < 4294967296 ∧ Hid (RowB u w.heap.size (.slice (some ⟨g, 0, none⟩) xrn xrn) cl) ∧ Hid (NFB u A ⟨(xrn : Nat), xa, en, xc, xra, xrn, xrc⟩) ∧ Hid (Below w.heap.size w u) ∧ Hid (orFrom r' (cl.drop k) (M.rs.drop k) = orFrom r cl M.rs)) (fun _ i _ => xrn - (intOf i).toNat)
    case atStart => exact ⟨0, r, rfl, rfl, Nat.zero_le _, hr, HRW4, HNX4, HB4, rfl⟩
    case round =>
      clear HRW4 HNX4 HB4
      obtain ⟨k, r', rfl, rfl, hk, hr', HRW4, HNX4, HB4, HOF⟩ := hrel
      by_cases hlt : k < xrn
      · have hlt' : (k : Int) < (xrn : Int) := by omega
        obtain ⟨cv, hcv⟩ : ∃ cv, cl[k]? = some cv := ⟨_, List.getElem?_eq_getElem (by rw [HLC.out]; exact hlt)⟩
        obtain ⟨rv, hrv⟩ : ∃ rv, M.rs[k]? = some rv := ⟨_, List.getElem?_eq_getElem (by rw [HRS.out]; exact hlt)⟩
        have hrb := HRU.out rv (List.mem_of_getElem? hrv)
        obtain ⟨c0, _⟩ := HRW4.out.cell hcv
        obtain ⟨x0, x1, x2⟩ := HNX4.out.cells
        simp only at x0 x1 x2
        have HU2 := HMA.out.u.keep (w' := wr) (Y := fun _ => True) (fun _ h _ => h) (fun k _ hk => HB4.out.block k hk)
        obtain ⟨b', off, rfl, p0⟩ := HU2.nth hrv
        have HST := orFrom_step hcv hrv r'
        rw [HOF.out] at HST
        have HST2 : Hid (orFrom r cl M.rs = orFrom (if cv then r' ||| rv else r') (cl.drop (k + 1)) (M.rs.drop (k + 1))) := HST
        clear HST HU2 hcv hrv
        cases cv with
        | false =>
          have HO2 : Hid (orFrom r' (cl.drop (k + 1)) (M.rs.drop (k + 1)) = orFrom r cl M.rs) := HST2.out.symm
          go_wp2_with fail
          go_roundw
          case rel => exact ⟨k + 1, r', rfl, by go_num, by omega, hr', HRW4, HNX4, HB4, HO2⟩
          case measure => simp [intOf]; omega
        | true =>
          have HO2 : Hid (orFrom (r' ||| rv) (cl.drop (k + 1)) (M.rs.drop (k + 1)) = orFrom r cl M.rs) := HST2.out.symm
          have hor : bits .or .u32 (r' : Nat) (rv : Nat) = ((r' ||| rv : Nat) : Int) := u32_or_nat r' rv hr' hrb
          have hol := or_lt32 hr' hrb
          go_wp2_with fail
          go_roundw
          case rel => exact ⟨k + 1, r' ||| rv, rfl, by go_num, by omega, hol, HRW4, HNX4, HB4, HO2⟩
          case measure => simp [intOf]; omega
      · have hlt' : ¬ (k : Int) < (xrn : Int) := by omega
        have HR5 : Hid (r' = orFrom r cl M.rs) := by
          have h := HOF.out
          rw [orFrom_end (by rw [HLC.out]; omega)] at h
          exact h
        clear HOF
        cases b1 with
        | true =>
          have hjl : j = line.size := of_decide_eq_true HB01.out.2
          have HWL : Hid (Walks M xrn line 0 (List.replicate xrn false) 0 r') := HWK.out r' (by
            have h := Walks.last (M := M) (S := xrn) (line := line) j cur cl r hjl (by rw [HB01.out.1]; exact HCL.out)
            rw [← HR5.out] at h
            exact h)
          clear hjl
          go_wp2_with fail
          go_ret
          exact ⟨HB4.out, r', rfl, HWL.out⟩
        | false =>
          have hjl : j < line.size := by have := of_decide_eq_false HB01.out.2; omega
          have hjl' : (j : Int) < (line.size : Int) := by omega
          have HWS : Hid (∀ R, Walks M xrn line (j + 1) (nexts (byt line j) cl M.es (List.replicate xrn false)) r' R → Walks M xrn line 0 (List.replicate xrn false) 0 R) := fun R h => HWK.out R (by
            refine .step j cur cl r R hjl (by rw [HB01.out.1]; exact HCL.out) ?_
            rw [← HR5.out]
            exact h)
          obtain ⟨bb, hbb⟩ : ∃ bb, byt line j = bb := ⟨_, rfl⟩
          have hbq : (line[j]'hjl).toNat = bb := by rw [← hbb, byt_eq hjl]
          have HBL : Hid (bb < 256) := by rw [← hbb]; exact byt_lt line j
          rw [hbb] at HWS
          clear hbb HWK HR5 HCL
          obtain ⟨x0, x1, x2⟩ := HNX4.out.cells
          simp only at x0 x1 x2
          have HZ4 : Hid (w.heap.size ≤ wr.heap.size) := HB4.out.size
          go_upto_region 16 with (first | (refine wpList_make_bool rfl _ _ rfl w.heap.size xrn HZ4.out rfl rfl (by omega) ?_; intro w6 hn6 hb6; have HR6 : Hid (RowB w6 w.heap.size (.slice (some ⟨wr.heap.size, 0, none⟩) xrn xrn) (List.replicate xrn false)) := hn6; have HK6 : Hid (Below wr.heap.size wr w6) := hb6; clear hn6 hb6) | fail)
          have HNX6 : Hid (NFB w6 A ⟨(xrn : Nat), xa, en, xc, xra, xrn, xrc⟩) := HNX4.out.later HK6.out
          have HB6 : Hid (Below w.heap.size w w6) := below_step HB4.out HK6.out
          have HRW6 : Hid (RowB w6 w.heap.size (.slice (some ⟨g, 0, none⟩) xrn xrn) cl) := HRW4.out.same (HK6.out.block g HRW4.out.lt.1)
          have HGG : Hid (A < wr.heap.size ∧ g < wr.heap.size ∧ w.heap.size ≤ wr.heap.size) := ⟨HNX4.out.lt, HRW4.out.lt.1, HZ4.out⟩
          obtain ⟨g2, hg2⟩ : ∃ g2, wr.heap.size = g2 := ⟨_, rfl⟩
          rw [hg2] at HR6 HGG ⊢
          clear hg2 HK6 HZ4 HNX4 HB4 HRW4 x0 x1 x2
          obtain ⟨x0, x1, x2⟩ := HNX6.out.cells
          simp only at x0 x1 x2
          go_wp2_with fail
          clear x0 x1 x2
          go_loopw [59] (fun i u => ∃ (k : Nat) (nx : List Bool), i = .int .i64 (k : Nat) ∧ k ≤ en ∧ Hid (RowB u w.heap.size (.slice (some ⟨g2, 0, none⟩) xrn xrn) nx ∧ nx.length = xrn) ∧ Hid (RowB u w.heap.size (.slice (some ⟨g, 0, none⟩) xrn xrn) cl) ∧ Hid (NFB u A ⟨(xrn : Nat), xa, en, xc, xra, xrn, xrc⟩) ∧ Hid (Below w.heap.size w u) ∧ Hid (nexts bb cl (M.es.drop k) nx = nexts bb cl M.es (List.replicate xrn false))) (fun i _ => en - (intOf i).toNat)
          case atStart => exact ⟨0, List.replicate xrn false, rfl, Nat.zero_le _, ⟨HR6.out, by simp⟩, HRW6, HNX6, HB6, rfl⟩
          case round =>
            clear HR6 HRW6 HNX6 HB6
            obtain ⟨k, nx, rfl, hke, HRN, HRC, HNX, HB, HNN⟩ := hrel
            by_cases hlk : k < en
            · have hlk' : (k : Int) < (en : Int) := by omega
              obtain ⟨y, hy⟩ : ∃ y, M.es[k]? = some y := ⟨_, List.getElem?_eq_getElem (by rw [HEN.out]; exact hlk)⟩
              obtain ⟨hf0, hf1, ht0, ht1⟩ := HRG.out y (List.mem_of_getElem? hy)
              have HE2 := HMA.out.e
              obtain ⟨b', off, rfl, p0, p1, p2, p3, p4, p5, p6⟩ := (HE2.keep (w' := wr) (Y := fun _ => True) (fun _ h _ => h) (fun k _ hk => HB.out.block k hk)).nth hy
              have HN2 : Hid (nexts bb cl (M.es.drop (k + 1)) (if takesB bb cl y then nx.set y.t.toNat true else nx) = nexts bb cl M.es (List.replicate xrn false)) := (nexts_step hy nx).symm.trans HNN.out
              clear hy HE2 HNN
              have kk : Below wr.heap.size wr (wr.alloc (.cells #[.int .i64 y.k, .int .i64 y.f, .int .i64 y.t, .int .u64 (Oct.word y.s 0 : Nat), .int .u64 (Oct.word y.s 1 : Nat), .int .u64 (Oct.word y.s 2 : Nat), .int .u64 (Oct.word y.s 3 : Nat)] 57)) := (Below.refl _ _).alloc (Nat.le_refl _) _
              have HG4 : Hid ((wr.alloc (.cells #[.int .i64 y.k, .int .i64 y.f, .int .i64 y.t, .int .u64 (Oct.word y.s 0 : Nat), .int .u64 (Oct.word y.s 1 : Nat), .int .u64 (Oct.word y.s 2 : Nat), .int .u64 (Oct.word y.s 3 : Nat)] 57)).heap[wr.heap.size]? = some (.cells #[.int .i64 y.k, .int .i64 y.f, .int .i64 y.t, .int .u64 (Oct.word y.s 0 : Nat), .int .u64 (Oct.word y.s 1 : Nat), .int .u64 (Oct.word y.s 2 : Nat), .int .u64 (Oct.word y.s 3 : Nat)] 57 (0, 0))) := heap_alloc_new wr _
              have HRN7 : Hid (RowB (wr.alloc (.cells #[.int .i64 y.k, .int .i64 y.f, .int .i64 y.t, .int .u64 (Oct.word y.s 0 : Nat), .int .u64 (Oct.word y.s 1 : Nat), .int .u64 (Oct.word y.s 2 : Nat), .int .u64 (Oct.word y.s 3 : Nat)] 57)) w.heap.size (.slice (some ⟨g2, 0, none⟩) xrn xrn) nx) := HRN.out.1.same (kk.block g2 HRN.out.1.lt.1)
              have HRC7 : Hid (RowB (wr.alloc (.cells #[.int .i64 y.k, .int .i64 y.f, .int .i64 y.t, .int .u64 (Oct.word y.s 0 : Nat), .int .u64 (Oct.word y.s 1 : Nat), .int .u64 (Oct.word y.s 2 : Nat), .int .u64 (Oct.word y.s 3 : Nat)] 57)) w.heap.size (.slice (some ⟨g, 0, none⟩) xrn xrn) cl) := HRC.out.same (kk.block g HRC.out.lt.1)
              have HNX7 : Hid (NFB (wr.alloc (.cells #[.int .i64 y.k, .int .i64 y.f, .int .i64 y.t, .int .u64 (Oct.word y.s 0 : Nat), .int .u64 (Oct.word y.s 1 : Nat), .int .u64 (Oct.word y.s 2 : Nat), .int .u64 (Oct.word y.s 3 : Nat)] 57)) A ⟨(xrn : Nat), some ⟨b', off, none⟩, en, xc, xra, xrn, xrc⟩) := HNX.out.later kk
              have HB7 : Hid (Below w.heap.size w (wr.alloc (.cells #[.int .i64 y.k, .int .i64 y.f, .int .i64 y.t, .int .u64 (Oct.word y.s 0 : Nat), .int .u64 (Oct.word y.s 1 : Nat), .int .u64 (Oct.word y.s 2 : Nat), .int .u64 (Oct.word y.s 3 : Nat)] 57))) := below_step HB.out kk
              have HNL : Hid (nx.length = xrn) := HRN.out.2
              clear kk
              go_upto_region 19 with fail
              obtain ⟨w7, hw7⟩ : ∃ w7, wr.alloc (.cells #[.int .i64 y.k, .int .i64 y.f, .int .i64 y.t, .int .u64 (Oct.word y.s 0 : Nat), .int .u64 (Oct.word y.s 1 : Nat), .int .u64 (Oct.word y.s 2 : Nat), .int .u64 (Oct.word y.s 3 : Nat)] 57) = w7 := ⟨_, rfl⟩
              obtain ⟨G, hG⟩ : ∃ G, wr.heap.size = G := ⟨_, rfl⟩
              rw [hw7] at HG4 HRN7 HRC7 HNX7 HB7 ⊢
              rw [hG] at HG4 ⊢
              clear hw7 hG p0 p1 p2 p3 p4 p5 p6 HRN HRC HNX HB
              obtain ⟨F, hF⟩ : ∃ F : Nat, y.f = (F : Nat) := ⟨y.f.toNat, by omega⟩
              obtain ⟨T, hT⟩ : ∃ T : Nat, y.t = (T : Nat) := ⟨y.t.toNat, by omega⟩
              have HFT : Hid (y.f = (F : Nat) ∧ y.t = (T : Nat)) := ⟨hF, hT⟩
              rw [hF] at hf0 hf1
              rw [hT] at ht0 ht1
              have hGl : G < w7.heap.size := (Array.getElem?_eq_some_iff.1 HG4.out).1
              have HGC : Hid (∀ u : Later w7, u.at_.heap[G]? = some (.cells #[.int .i64 y.k, .int .i64 y.f, .int .i64 y.t, .int .u64 (Oct.word y.s 0 : Nat), .int .u64 (Oct.word y.s 1 : Nat), .int .u64 (Oct.word y.s 2 : Nat), .int .u64 (Oct.word y.s 3 : Nat)] 57 (0, 0))) := fun u => (u.below.block G hGl).trans HG4.out
              clear hGl
              have g0 : ∀ u : Later w7, u.at_.cell? ⟨G, 0, none⟩ = some (.int .i64 y.k) := fun u => by simp [World.cell?, HGC.out u]
              have g1 : ∀ u : Later w7, u.at_.cell? ⟨G, 1, none⟩ = some (.int .i64 (F : Nat)) := fun u => by simp [World.cell?, HGC.out u, hF]
              have g3 : ∀ u : Later w7, u.at_.cell? ⟨G, 3, none⟩ = some (.int .u64 (Oct.word y.s 0 : Nat)) := fun u => by simp [World.cell?, HGC.out u]
              have g4 : ∀ u : Later w7, u.at_.cell? ⟨G, 4, none⟩ = some (.int .u64 (Oct.word y.s 1 : Nat)) := fun u => by simp [World.cell?, HGC.out u]
              have g5 : ∀ u : Later w7, u.at_.cell? ⟨G, 5, none⟩ = some (.int .u64 (Oct.word y.s 2 : Nat)) := fun u => by simp [World.cell?, HGC.out u]
              have g6 : ∀ u : Later w7, u.at_.cell? ⟨G, 6, none⟩ = some (.int .u64 (Oct.word y.s 3 : Nat)) := fun u => by simp [World.cell?, HGC.out u]
              obtain ⟨p, hp⟩ : ∃ p, cl[F]? = some p := ⟨_, List.getElem?_eq_getElem (by rw [HLC.out]; omega)⟩
              have c1 : ∀ u : Later w7, u.at_.cell? ⟨g, F, none⟩ = some (.bool p) := fun u => ((HRC7.out.same (u.below.block g HRC7.out.lt.1)).cell hp).1
              have HAP : Hid (at_ cl y.f = p) := by
                unfold at_
                rw [hF, Int.toNat_natCast, hp]
                rfl
              have hne : Nonempty (Later w7) := ⟨⟨w7, Below.refl _ _⟩⟩
              clear hp hF hT
              obtain ⟨tk, htk⟩ : ∃ tk, takesB bb cl y = tk := ⟨_, rfl⟩
              have HTK : Hid (takesB bb cl y = tk) := htk
              rw [htk] at HN2
              clear htk
              go_cut [88] (fun v wx => v = .bool tk ∧ Hid (Below w7.heap.size w7 wx))
              case first =>
                by_cases h2 : y.k = 2
                · have h2a : (y.k == 2) = true := by simp [h2]
                  cases p with
                  | false =>
                    have htf : tk = false := by rw [← HTK.out]; unfold takesB; rw [HAP.out]; simp
                    refine wp_region_later (by kernel_rfl) (by kernel_rfl) ?_
                    repeat (first
                      | go_big_quiet_step (fail)
                      | quiet_step (fail))
                    refine wpQuiet_nil ?_
                    intro _ hw'
                    obtain ⟨u, hw''⟩ := hw'
                    subst hw''
                    go_wp2_with fail
                    go_meet
                    case rel => exact ⟨by rw [htf], u.below⟩
                  | true =>
                    have HTS : Hid (tk = y.s bb) := by show _ = _; rw [← HTK.out]; unfold takesB; rw [HAP.out]; simp [h2]
                    rcases quo4 HBL.out with ⟨hn, hq⟩ | ⟨hn, hq⟩ | ⟨hn, hq⟩ | ⟨hn, hq⟩
                    all_goals
                      have HNQ : Hid (bb / 64 = _) := hn
                      clear hn
                      refine wp_region_later (by kernel_rfl) (by kernel_rfl) ?_
                      repeat (first
                        | go_big_quiet_step (fail)
                        | quiet_step (fail))
                      refine wpQuiet_nil ?_
                      intro _ hw'
                      obtain ⟨u, hw''⟩ := hw'
                      subst hw''
                      go_wp2_with fail
                      go_meet
                      case rel => exact ⟨by rw [HTS.out, ← has_bit y.s bb _ HNQ.out], u.below⟩
                · have h2a : (y.k == 2) = false := by simp [h2]
                  have htf : tk = false := by rw [← HTK.out]; unfold takesB; simp [h2]
                  refine wp_region_later (by kernel_rfl) (by kernel_rfl) ?_
                  repeat (first
                    | go_big_quiet_step (fail)
                    | quiet_step (fail))
                  refine wpQuiet_nil ?_
                  intro _ hw'
                  obtain ⟨u, hw''⟩ := hw'
                  subst hw''
                  go_wp2_with fail
                  go_meet
                  case rel => exact ⟨by rw [htf], u.below⟩
              case rest =>
              obtain ⟨rfl, HK⟩ := hcut
              have HRN8 : Hid (RowB wc w.heap.size (.slice (some ⟨g2, 0, none⟩) xrn xrn) nx) := HRN7.out.same (HK.out.block g2 HRN7.out.lt.1)
              have HRC8 : Hid (RowB wc w.heap.size (.slice (some ⟨g, 0, none⟩) xrn xrn) cl) := HRC7.out.same (HK.out.block g HRC7.out.lt.1)
              have HNX8 : Hid (NFB wc A ⟨(xrn : Nat), some ⟨b', off, none⟩, en, xc, xra, xrn, xrc⟩) := HNX7.out.later HK.out
              have HB8 : Hid (Below w.heap.size w wc) := below_step HB7.out HK.out
              have g2c : wc.cell? ⟨G, 2, none⟩ = some (.int .i64 (T : Nat)) := by
                have h := HGC.out ⟨wc, HK.out⟩
                simp only at h
                simp [World.cell?, h, HFT.out.2]
              clear g0 g1 g3 g4 g5 g6 c1 HRN7 HRC7 HNX7 HB7 HGC HG4 HK hne
              rw [HFT.out.2, Int.toNat_natCast] at HN2
              cases tk with
              | false =>
                have HN3 : Hid (nexts bb cl (M.es.drop (k + 1)) nx = nexts bb cl M.es (List.replicate xrn false)) := HN2.out
                go_wp2_with fail
                go_roundw
                case rel => exact ⟨k + 1, nx, by go_num, by omega, ⟨HRN8.out, HNL.out⟩, HRC8, HNX8, HB8, HN3⟩
                case measure => simp [intOf]; omega
              | true =>
                have HN3 : Hid (nexts bb cl (M.es.drop (k + 1)) (nx.set T true) = nexts bb cl M.es (List.replicate xrn false)) := HN2.out
                obtain ⟨q, hq⟩ : ∃ q, nx[T]? = some q := ⟨_, List.getElem?_eq_getElem (by rw [HNL.out]; omega)⟩
                obtain ⟨c2, f2⟩ := HRN8.out.cell hq
                have HRN9 : Hid (RowB (wc.setCell ⟨g2, T, none⟩ (.bool true)) w.heap.size (.slice (some ⟨g2, 0, none⟩) xrn xrn) (nx.set T true)) := HRN8.out.put T true
                have HRC9 : Hid (RowB (wc.setCell ⟨g2, T, none⟩ (.bool true)) w.heap.size (.slice (some ⟨g, 0, none⟩) xrn xrn) cl) := HRC8.out.same (Below.heap_setCell wc ⟨g2, T, none⟩ _ g (fun e => by have e : g = g2 := e; have := HGG.out; omega))
                have HNX9 : Hid (NFB (wc.setCell ⟨g2, T, none⟩ (.bool true)) A ⟨(xrn : Nat), some ⟨b', off, none⟩, en, xc, xra, xrn, xrc⟩) := (Below.heap_setCell wc ⟨g2, T, none⟩ _ A (fun e => by have e : A = g2 := e; have := HGG.out; omega)).trans HNX8.out
                have HB9 : Hid (Below w.heap.size w (wc.setCell ⟨g2, T, none⟩ (.bool true))) := HB8.out.setCell (p := ⟨g2, T, none⟩) HGG.out.2.2 _
                clear hq
                go_wp2_with fail
                go_roundw
                case rel => exact ⟨k + 1, nx.set T true, by go_num, by omega, ⟨HRN9.out, by rw [List.length_set]; exact HNL.out⟩, HRC9, HNX9, HB9, HN3⟩
                case measure => simp [intOf]; omega
            · have hlk' : ¬ (k : Int) < (en : Int) := by omega
              have HNE : Hid (nx = nexts bb cl M.es (List.replicate xrn false)) := by
                have h := HNN.out
                rw [List.drop_of_length_le (by rw [HEN.out]; omega), nexts] at h
                exact h
              have HWF : Hid (∀ R, Walks M xrn line (j + 1) nx r' R → Walks M xrn line 0 (List.replicate xrn false) 0 R) := by rw [HNE.out]; exact HWS.out
              go_wp2_with fail
              go_roundw
              case rel => exact ⟨j + 1, r', nx, g2, rfl, rfl, by go_num, by omega, hr', ⟨HRN.out.1, HRN.out.2, HGG.out.1⟩, HNX, HB, HWF⟩
              case measure => simp [intOf]; omega
end Go.Proofs.Ytjmbimgofceanaa
