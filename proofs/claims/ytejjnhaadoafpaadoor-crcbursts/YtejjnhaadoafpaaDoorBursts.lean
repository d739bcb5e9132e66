/- The walks of heronlaw01.CrcBursts. -/
import Derived.Test.YtejjnhaadoafpaaDoorOwn
import Derived.Deep.DeepMust
import Derived.RegionTactic
namespace Go.Proofs.YtejjnhaadoafpaaDoor
open Go.RowKit

/-- a byte of a row of the call's own -/
theorem Owns.at {w : World} {B g n c : Nat} {ys : List Int} (h : Owns w B (.slice (some ⟨g, 0, none⟩) n c) ys) (hb : Crc.Bs ys) {j : Nat} (hj : j < ys.length) :
    ∃ y : Nat, y < 256 ∧ ys.getD j 0 = (y : Int) ∧ w.cell? ⟨g, j, none⟩ = some (.int .u8 (y : Int)) ∧ w.frozen? ⟨g, j, none⟩ = false := by
  obtain ⟨g', c', e, _, _, hbt, _⟩ := h.form
  cases e
  have hbd := bs_at hb hj
  refine ⟨(ys.getD j 0).toNat, by omega, by omega, ?_, h.1.frozenAt j⟩
  rcases hbt with rfl | ⟨b, off, e, hc⟩
  · simp at hj
  · cases e
    have := hc j hj
    rw [Nat.zero_add] at this
    rw [this]
    congr 2
    omega
/-- a byte stored into it -/
theorem Owns.put {w : World} {B g n c : Nat} {ys : List Int} (h : Owns w B (.slice (some ⟨g, 0, none⟩) n c) ys) (j : Nat) (x : Int) :
    Owns (w.setCell ⟨g, j, none⟩ (.int .u8 x)).drew B (.slice (some ⟨g, 0, none⟩) n c) (ys.set j x) := by
  obtain ⟨g', c', e, hB, _, _, _⟩ := h.form
  cases e
  refine ⟨?_, by simp⟩
  have h1 := h.1.stored j (.int .u8 x)
  have e2 : cellsOf (ys.set j x) = (cellsOf ys).set j (.int .u8 x) := by simp [cellsOf, List.map_set]
  rw [e2, List.length_set]
  exact h1.1
theorem xor_u8 {y j : Nat} (hy : y < 256) (hj : j < 8) : bits .xor .u8 (y : Int) (2 ^ j % 256) = ((y ^^^ 2 ^ j : Nat) : Int) := by
  have h1 : 2 ^ j < 256 := Nat.pow_lt_pow_right (by decide) (show j < 8 from hj)
  have h2 : ((2 : Int) ^ j % 256) = ((2 ^ j : Nat) : Int) := by
    have h3 : ((2 : Int) ^ j) = ((2 ^ j : Nat) : Int) := by simp
    rw [h3]
    exact Int.emod_eq_of_lt (Int.natCast_nonneg _) (Int.ofNat_lt.2 h1)
  rw [h2, u8_xor_nat y (2 ^ j) hy h1]
/-- WHAT ONE TURNED BIT DOES. -/
theorem flip_rel (zb ys : List Int) (n a k M y : Nat) (hl : ys.length = n) (hin : a + k < 8 * n) (hM : M < 2 ^ k) (hy : ys.getD ((a + k) / 8) 0 = (y : Int)) (hys : Crc.Bs ys)
    (hR : Crc.run 4294967295 ys = Crc.run 4294967295 zb ^^^ Crc.it (8 * n - a) M) :
    M ^^^ 2 ^ k < 2 ^ (k + 1) ∧ M ^^^ 2 ^ k ≠ 0 ∧ Crc.Bs (ys.set ((a + k) / 8) ((y ^^^ 2 ^ ((a + k) % 8) : Nat) : Int)) ∧ (ys.set ((a + k) / 8) ((y ^^^ 2 ^ ((a + k) % 8) : Nat) : Int)).length = n ∧
      Crc.run 4294967295 (ys.set ((a + k) / 8) ((y ^^^ 2 ^ ((a + k) % 8) : Nat) : Int)) = Crc.run 4294967295 zb ^^^ Crc.it (8 * n - a) (M ^^^ 2 ^ k) := by
  have hb := bs_at hys (show (a + k) / 8 < ys.length by omega)
  rw [hy] at hb
  have hp : 2 ^ ((a + k) % 8) < 2 ^ 8 := Nat.pow_lt_pow_right (by decide) (Nat.mod_lt _ (by decide))
  have hx : y ^^^ 2 ^ ((a + k) % 8) < 2 ^ 8 := Nat.xor_lt_two_pow (by omega) hp
  refine ⟨Nat.xor_lt_two_pow (by rw [Nat.pow_succ]; omega) (by rw [Nat.pow_succ]; have := Nat.two_pow_pos k; omega), fun e => ?_, ?_, by simpa using hl, ?_⟩
  · have := Crc.xor_eq_zero e; omega
  · intro z hz
    rcases List.mem_or_eq_of_mem_set hz with h | h
    · exact hys z h
    · rw [h]; omega
  · have h1 := Crc.run_flip 4294967295 (a + k) ys (by omega)
    rw [hy, Int.toNat_natCast] at h1
    rw [h1, hR, Crc.it_xor, Crc.it_pow k _ (by omega), Nat.xor_assoc, hl]
    congr 3
    omega

set_option maxHeartbeats 1000000 in
theorem bursts_in (ab : Option Addr) (n cb m a : Nat) (zb : List Int) (w : World) (hT : Tab w) (h0 : 0 < w.heap.size) (_hm : m < 4294967296)
    (hb : BytesAt w ab zb) (hbb : Crc.Bs zb) (hlb : zb.length = n) (hcb : n ≤ cb) (hmb : cb ≤ 140737488355328) (ha : a < 8 * n) :
    Calls Tryd.prog 4 #[.slice ab n cb, .int .i64 a, .int .u32 m] w fun e w' => e = .returned (.bool true) ∧ Below w.heap.size w w' := by
  have HT : Hid (Tab w) := hT
  have HB : Hid (BytesAt w ab zb) := hb
  have HBB : Hid (Crc.Bs zb) := hbb
  have HLB : Hid (zb.length = n) := hlb
  clear hT hb hbb hlb
  go_enter Tryd.func4, Tryd.ntmps4
  go_wp2_with fail
  refine (known_any _ HT.out h0).mono ?_
  rintro e w1 ⟨rfl, hb1⟩
  have HB1 : Hid (Below w.heap.size w w1) := hb1
  have hz1 : w.heap.size ≤ w1.heap.size := hb1.size
  clear hb1
  go_wp2_with (at_builtin; go_must (refine wpList_append_fresh rfl (.tmp 15) (.tmp 16) rfl rfl ab cb n zb rfl HLB.out.symm (bytesAt_later HB1.out HB.out) (by omega) ?_; intro g c w2 ho2 hb2 hc2; have HO2 : Hid (Owns w2 w1.heap.size (.slice (some ⟨g, 0, none⟩) n c) zb) := ho2; have HB2 : Hid (Below w.heap.size w w2) := below_trans HB1.out hb2 hz1; have hz2 : w.heap.size ≤ w2.heap.size := HB2.out.size; clear ho2 hb2))
  go_loopw [8, 9] (fun t i wr => ∃ (k M : Nat) (ys : List Int), k ≤ 32 ∧ i = .int .i64 k ∧ t = .bool (decide (M ≠ 0)) ∧ M < 2 ^ k ∧ Owns wr w.heap.size (.slice (some ⟨g, 0, none⟩) n c) ys ∧ Below w.heap.size w wr ∧ Crc.Bs ys ∧ ys.length = n ∧ Crc.run 4294967295 ys = Crc.run 4294967295 zb ^^^ Crc.it (8 * n - a) M)
    (fun _ i _ => 32 - (intOf i).toNat)
  case atStart => exact ⟨0, 0, zb, by omega, rfl, rfl, by decide, HO2.out.lower hz1, HB2.out, HBB.out, HLB.out, by rw [Crc.it_zero, Nat.xor_zero]⟩
  case round =>
    obtain ⟨k, M, ys, hk, rfl, rfl, hM, ho, hbel, hys, hyl, hrun⟩ := hrel
    have HM : Hid (M < 2 ^ k) := hM
    have HO : Hid (Owns wr w.heap.size (.slice (some ⟨g, 0, none⟩) n c) ys) := ho
    have HBL : Hid (Below w.heap.size w wr) := hbel
    have HYS : Hid (Crc.Bs ys) := hys
    have HYL : Hid (ys.length = n) := hyl
    have HR : Hid (Crc.run 4294967295 ys = Crc.run 4294967295 zb ^^^ Crc.it (8 * n - a) M) := hrun
    clear hM ho hbel hys hyl hrun
    by_cases hlt : k < 32
    · by_cases hin : a + k < 8 * n
      · have hin' : ((a : Int) + (k : Int)) / 8 < (n : Int) := by omega
        have hin0 : (0 : Int) ≤ ((a : Int) + (k : Int)) / 8 := by omega
        obtain ⟨y, hy1, hy, hcell, hfr⟩ := HO.out.at HYS.out (j := (a + k) / 8) (by rw [HYL.out]; omega)
        have HYY : Hid (ys.getD ((a + k) / 8) 0 = (y : Int)) := hy
        clear hy
        go_wp2
        · go_roundw
          case rel => exact ⟨k + 1, M, ys, by omega, by go_num, by simp, by have := HM.out; rw [Nat.pow_succ]; omega, HO.out, HBL.out, HYS.out, HYL.out, HR.out⟩
          case measure => simp [intOf]; omega
        · go_region
          go_wp2
          go_roundw
          case rel =>
            obtain ⟨r1, r2, r3, r4, r5⟩ := flip_rel zb ys n a k M y HYL.out hin HM.out HYY.out HYS.out HR.out
            rw [xor_u8 hy1 (Nat.mod_lt _ (by decide))]
            exact ⟨k + 1, M ^^^ 2 ^ k, _, by omega, by go_num, by rw [decide_eq_true r2], r1, HO.out.put _ _, (HBL.out.setCell (p := ⟨g, (a + k) / 8, none⟩) (by obtain ⟨g', c', e, hB, _⟩ := HO.out.form; cases e; exact hB) _).drew, r3, r4, r5⟩
          case measure => simp [intOf]; omega
      · go_wp2
        go_roundw
        case rel => exact ⟨k + 1, M, ys, by omega, by go_num, by simp, by have := HM.out; rw [Nat.pow_succ]; omega, HO.out, HBL.out, HYS.out, HYL.out, HR.out⟩
        case measure => simp [intOf]; omega
    · have HTr : Hid (Tab wr) := tab_below HBL.out h0 HT.out
      have hnl : n ≤ maxLen := by unfold maxLen; omega
      have HK : Hid (Piece.Ok wr ⟨some ⟨g, 0, none⟩, c, ys⟩) := HO.out.ok HYS.out (by rw [HYL.out]; exact hnl)
      have HKB : Hid (Piece.Ok wr ⟨ab, cb, zb⟩) := ⟨by rw [HLB.out]; exact hnl, bytesAt_later HBL.out HB.out, HBB.out⟩
      have hM32 : M < 4294967296 := by
        have h1 := HM.out
        have h2 : k = 32 := by omega
        rw [h2] at h1
        exact h1
      have hsame : Crc.more 0 ys = Crc.more 0 zb ↔ M = 0 := by
        constructor
        · intro e
          have e1 := Crc.xor_inj e
          have e2 : Crc.run 4294967295 zb ^^^ Crc.it (8 * n - a) M = Crc.run 4294967295 zb := by rw [← HR.out]; exact e1
          have e3 : Crc.it (8 * n - a) M = 0 := by
            have := congrArg (Crc.run 4294967295 zb ^^^ ·) e2
            simpa [Crc.xcan] using this
          exact Crc.it_eq_zero _ hM32 e3
        · intro e
          have h1 := HR.out
          rw [e, Crc.it_zero, Nat.xor_zero] at h1
          show Crc.run 4294967295 ys ^^^ 4294967295 = Crc.run 4294967295 zb ^^^ 4294967295
          rw [h1]
      have hu := Crc.more_lt (s := 0) (by decide) HYS.out
      have hv := Crc.more_lt (s := 0) (by decide) HBB.out
      have HS : Hid (Crc.more 0 ys = Crc.more 0 zb ↔ M = 0) := hsame
      clear hsame hM32 hnl
      go_wp2_with fail
      refine (of_n _ c n ys _ HYL.out.symm HTr.out HK.out).mono ?_
      rintro e w' ⟨rfl, rfl⟩
      go_wp2_with fail
      refine (of_n _ cb n zb _ HLB.out.symm HTr.out HKB.out).mono ?_
      rintro e w' ⟨rfl, rfl⟩
      obtain ⟨u, hu'⟩ : ∃ u, u = Crc.more 0 ys := ⟨_, rfl⟩
      obtain ⟨v, hv'⟩ : ∃ v, v = Crc.more 0 zb := ⟨_, rfl⟩
      rw [← hu'] at HS hu
      rw [← hv'] at HS hv
      rw [← hu', ← hv']
      clear hu' hv'
      by_cases hM0 : M = 0
      · have huv : u = v := HS.out.2 hM0
        subst huv
        go_wp2_with fail
        refine (more_n u _ cb n zb _ hu HLB.out.symm HTr.out HKB.out).mono ?_
        rintro e w' ⟨rfl, rfl⟩
        go_wp2_with fail
        refine (more_n u _ cb n zb _ hu HLB.out.symm HTr.out HKB.out).mono ?_
        rintro e w' ⟨rfl, rfl⟩
        go_wp2
        go_ret
        exact ⟨by simp, HBL.out⟩
      · have huv : ¬ u = v := fun e => hM0 (HS.out.1 e)
        have hne : ((u : Int) == (v : Int)) = false := by simp; omega
        have hmm : ¬ Crc.more u zb = Crc.more v zb := fun e => huv (Crc.more_inj hu hv e)
        have hne2 : (((Crc.more u zb : Nat) : Int) == ((Crc.more v zb : Nat) : Int)) = false := by simp; omega
        have hM0' : decide (M = 0) = false := by simpa using hM0
        clear hmm huv
        go_wp2_with fail
        refine (more_n u _ cb n zb _ hu HLB.out.symm HTr.out HKB.out).mono ?_
        rintro e w' ⟨rfl, rfl⟩
        go_wp2_with fail
        refine (more_n v _ cb n zb _ hv HLB.out.symm HTr.out HKB.out).mono ?_
        rintro e w' ⟨rfl, rfl⟩
        go_wp2
        go_ret
        exact ⟨by simp, HBL.out⟩

set_option maxHeartbeats 1000000 in
theorem bursts_out (ab : Option Addr) (n cb m : Nat) (a : Int) (zb : List Int) (w : World) (hT : Tab w) (h0 : 0 < w.heap.size) (_hm : m < 4294967296)
    (hb : BytesAt w ab zb) (hbb : Crc.Bs zb) (hlb : zb.length = n) (hcb : n ≤ cb) (hmb : cb ≤ 140737488355328) (ha1 : -9223372036854775808 ≤ a) (ha2 : a ≤ 9223372036854775807) (ha : a < 0 ∨ 8 * (n : Int) ≤ a) :
    Calls Tryd.prog 4 #[.slice ab n cb, .int .i64 a, .int .u32 m] w fun e w' => e = .returned (.bool true) ∧ Below w.heap.size w w' := by
  have HT : Hid (Tab w) := hT
  have HB : Hid (BytesAt w ab zb) := hb
  have HBB : Hid (Crc.Bs zb) := hbb
  have HLB : Hid (zb.length = n) := hlb
  clear hT hb hbb hlb
  go_enter Tryd.func4, Tryd.ntmps4
  go_wp2_with fail
  refine (known_any _ HT.out h0).mono ?_
  rintro e w1 ⟨rfl, hb1⟩
  have HB1 : Hid (Below w.heap.size w w1) := hb1
  have hz1 : w.heap.size ≤ w1.heap.size := hb1.size
  clear hb1
  go_wp2_with (at_builtin; go_must (refine wpList_append_fresh rfl (.tmp 15) (.tmp 16) rfl rfl ab cb n zb rfl HLB.out.symm (bytesAt_later HB1.out HB.out) (by omega) ?_; intro g c w2 ho2 hb2 hc2; have HO2 : Hid (Owns w2 w1.heap.size (.slice (some ⟨g, 0, none⟩) n c) zb) := ho2; have HB2 : Hid (Below w.heap.size w w2) := below_trans HB1.out hb2 hz1; have hz2 : w.heap.size ≤ w2.heap.size := HB2.out.size; clear ho2 hb2))
  go_loop [8, 9] (fun t i => ∃ k : Nat, k ≤ 32 ∧ i = .int .i64 k ∧ t = .bool false) (fun _ i => 32 - (intOf i).toNat)
  case atStart => exact ⟨0, by omega, rfl, rfl⟩
  case round =>
    obtain ⟨k, hk, rfl, rfl⟩ := hrel
    by_cases hlt : k < 32
    · by_cases hneg : a < 0
      · go_wp2
        go_round
        case rel => exact ⟨k + 1, by omega, by go_num, rfl⟩
        case measure => simp [intOf]; omega
      · have hge : 8 * (n : Int) ≤ a := by omega
        go_wp2
        go_round
        case rel => exact ⟨k + 1, by omega, by go_num, rfl⟩
        case measure => simp [intOf]; omega
    · have HTr : Hid (Tab w2) := tab_below HB2.out h0 HT.out
      have hnl : n ≤ maxLen := by unfold maxLen; omega
      have HK : Hid (Piece.Ok w2 ⟨some ⟨g, 0, none⟩, c, zb⟩) := HO2.out.ok HBB.out (by rw [HLB.out]; exact hnl)
      have HKB : Hid (Piece.Ok w2 ⟨ab, cb, zb⟩) := ⟨by rw [HLB.out]; exact hnl, bytesAt_later HB2.out HB.out, HBB.out⟩
      have hu := Crc.more_lt (s := 0) (by decide) HBB.out
      clear hnl ha
      go_wp2_with fail
      refine (of_n _ c n zb _ HLB.out.symm HTr.out HK.out).mono ?_
      rintro e w' ⟨rfl, rfl⟩
      go_wp2_with fail
      refine (of_n _ cb n zb _ HLB.out.symm HTr.out HKB.out).mono ?_
      rintro e w' ⟨rfl, rfl⟩
      go_wp2_with fail
      refine (more_n _ _ cb n zb _ hu HLB.out.symm HTr.out HKB.out).mono ?_
      rintro e w' ⟨rfl, rfl⟩
      go_wp2_with fail
      refine (more_n _ _ cb n zb _ hu HLB.out.symm HTr.out HKB.out).mono ?_
      rintro e w' ⟨rfl, rfl⟩
      go_wp2
      go_ret
      exact ⟨by simp, HB2.out⟩
end Go.Proofs.YtejjnhaadoafpaaDoor
