/- sim.Line. -/
import Derived.Test.YtmjnobdlgbojoaaDoorG09
namespace Go.Proofs.YtmjnobdlgbojoaaDoor
open Go.RowKit
attribute [local go_sem ↓] Go.wp_at_zero Go.wp_at_succ

/-- a line's bytes -/
def bts (s : ByteArray) : List Nat := s.data.toList.map UInt8.toNat
theorem bts_length (s : ByteArray) : (bts s).length = s.size := by unfold bts; rw [List.length_map]; rfl
theorem bts_take (s : ByteArray) {k : Nat} (h : k < s.size) : (bts s).take (k + 1) = (bts s).take k ++ [s[k].toNat] := by
  have h2 : (bts s)[k]? = some s[k].toNat := by
    unfold bts
    rw [List.getElem?_map]
    have : s.data.toList[k]? = some s[k] := by
      rw [List.getElem?_eq_getElem (by simpa using h)]
      rfl
    rw [this]
    rfl
  rw [List.take_add_one, h2]
  rfl
/-- WHAT A LINE MEETS. -/
def LineOf (M : Ma) (l : List Nat) (x : Nat) : Prop := ∃ g r, Mom M l g r ∧ EndOf M (decide (l = [])) g r x
theorem LineOf.uniq {M : Ma} {l : List Nat} {x y : Nat} (h1 : LineOf M l x) (h2 : LineOf M l y) : x = y := by
  obtain ⟨g, r, a1, a2⟩ := h1
  obtain ⟨g', r', b1, b2⟩ := h2
  obtain ⟨rfl, rfl⟩ := a1.uniq b1
  exact a2.uniq b2
theorem Mom.cnt {M : Ma} {l : List Nat} {g : Oct.S} {r : Nat} (h : Mom M l g r) : ∀ s, g s = true → s = 0 ∨ ∃ y ∈ M.es, y.t.toNat = s := by
  cases h with
  | beg g h => exact fun s hs => rch_cnt (fun t ht => Or.inl (by simpa [zeroS] using ht)) ((h s).1 hs)
  | byte l g r b g2 _ hc =>
    refine fun s hs => rch_cnt (fun t ht => ?_) ((hc s).1 hs)
    simp only [nextS, Bool.or_eq_true, decide_eq_true_eq, List.any_eq_true, Bool.and_eq_true] at ht
    rcases ht with ht | ⟨y, hy, _, ht⟩
    · exact Or.inl ht
    · exact Or.inr ⟨y, hy, ht⟩
/-- what Line leaves -/
def LinePost (w : World) (M : Ma) (s : ByteArray) (e : Ending) (w' : World) : Prop := Below w.heap.size w w' ∧ ∃ v : Nat, e = .returned (.tuple #[.int .u32 (v : Nat), .int .i64 (if rightOf M then 0 else 70)]) ∧ (if rightOf M then LineOf M (bts s) v else v = 0)
set_option maxRecDepth 8000 in
set_option maxHeartbeats 4000000 in
theorem line_any (M : Ma) (x : Nf) (s : ByteArray) (w : World) (hs : s.size ≤ maxLen) (hx : MaAt (fun _ => True) w M x) (he : M.es.length ≤ 2513169434900) (hr : M.rs.length ≤ 35184372088832) (h32 : ∀ z ∈ M.rs, z < 4294967296) (hT : Tab w) : Calls Tryd.prog 15 #[x.val, .string s] w (LinePost w M s) := by
  unfold maxLen at hs
  have kk : Below w.heap.size w (w.alloc (.cells #[.int .i64 x.S, .slice x.ea x.en x.ec, .slice x.ra x.rn x.rc] 25)) := (Below.refl _ _).alloc (Nat.le_refl _) _
  have HNX : Hid (NFB (w.alloc (.cells #[.int .i64 x.S, .slice x.ea x.en x.ec, .slice x.ra x.rn x.rc] 25)) w.heap.size x) := nfb_new w x
  have HB : Hid (Below w.heap.size w (w.alloc (.cells #[.int .i64 x.S, .slice x.ea x.en x.ec, .slice x.ra x.rn x.rc] 25))) := kk
  have HC : Hid (Calls Tryd.prog 8 #[x.val] (w.alloc (.cells #[.int .i64 x.S, .slice x.ea x.en x.ec, .slice x.ra x.rn x.rc] 25)) (BeginPost (w.alloc (.cells #[.int .i64 x.S, .slice x.ea x.en x.ec, .slice x.ra x.rn x.rc] 25)) M)) := begin_any M x _ (hx.later kk) he hr h32 (hT.later kk)
  obtain ⟨w1, hw1⟩ : ∃ w1, w.alloc (.cells #[.int .i64 x.S, .slice x.ea x.en x.ec, .slice x.ra x.rn x.rc] 25) = w1 := ⟨_, rfl⟩
  rw [hw1] at HNX HB HC
  obtain ⟨A, hA⟩ : ∃ A, w.heap.size = A := ⟨_, rfl⟩
  rw [hA] at HNX
  have HW1 : Hid (w.alloc (.cells #[.int .i64 x.S, .slice x.ea x.en x.ec, .slice x.ra x.rn x.rc] 25) = w1) := hw1
  have HAA : Hid (w.heap.size = A) := hA
  have HT : Hid (Tab w) := hT
  have H32 : Hid (∀ z ∈ M.rs, z < 4294967296) := h32
  clear kk hx hw1 hA hT h32
  obtain ⟨xS, xa, en, xc, xra, xrn, xrc⟩ := x
  unfold Nf.val at HC
  unfold Nf.val
  simp only at HC HW1 ⊢
  obtain ⟨b0, b1, b2⟩ := HNX.out.cells
  simp only at b0 b1 b2
  go_enter Tryd.func15, Tryd.ntmps15
  go_upto_region 1 with fail
  rw [HW1.out, HAA.out]
  clear HW1
  go_wp2_with fail
  refine HC.out.mono ?_
  rintro e w2 ⟨k2, hpost⟩
  have HB2 : Hid (Below w.heap.size w w2) := below_step HB.out k2
  have hw1s : w.heap.size ≤ w1.heap.size := HB.out.size
  clear HC HNX b0 b1 b2 k2
  rcases hpost with ⟨hok, rfl⟩ | ⟨hok, Wb, g, r, rfl, hm, hwk⟩
  · have HOK : Hid (rightOf M = false) := hok
    clear hok
    go_wp2
    go_ret2
    exact ⟨HB2.out, 0, by rw [HOK.out]; rfl, by rw [HOK.out]; simp⟩
  · have HOK : Hid (rightOf M = true) := hok
    have HF : Hid (Fits M M.rs.length) := fits_of hok H32.out
    have HWK : Hid (WkAt w1.heap.size w2 Wb M M.rs.length g r false) := hwk
    have HMM : Hid (Mom M [] g r) := hm
    have hbase : w1.heap.size ≠ 0 := by have := HT.out.pos; omega
    have hWlo : w.heap.size ≤ Wb := by have := hwk.1; omega
    clear hok hm hwk HB
    go_wp2_with fail
    go_loopw [19] (fun i u => ∃ j : Nat, i = .int .i64 (j : Nat) ∧ j ≤ s.size ∧ Hid (∃ g r, Mom M ((bts s).take j) g r ∧ WkAt w1.heap.size u Wb M M.rs.length g r (decide (0 < j)) ∧ Below w.heap.size w u)) (fun i _ => s.size - (intOf i).toNat)
    case atStart => exact ⟨0, rfl, Nat.zero_le _, g, r, HMM.out, HWK.out, HB2.out⟩
    case round =>
      obtain ⟨j, rfl, hjn, HJ⟩ := hrel
      obtain ⟨g1, r1, hm1, hwk1, hb1⟩ := HJ.out
      have hr1 := hm1.r32 HF.out
      have hlt1 := hm1.lt HF.out
      have hT1 := HT.out.later hb1
      by_cases hlt : j < s.size
      · have hlt' : (j : Int) < (s.size : Int) := by omega
        have hb256 : s[j].toNat < 256 := UInt8.toNat_lt _
        have HBY : Hid (Calls Tryd.prog 12 #[.pointer (some ⟨Wb, 0, none⟩), .int .u8 (s[j].toNat : Nat)] wr _) := byte_any Wb s[j].toNat wr hwk1 HF.out hT1 hbase hb256 hr he hr1 hlt1
        have HTK : Hid ((bts s).take (j + 1) = (bts s).take j ++ [s[j].toNat]) := bts_take s hlt
        have HM1 : Hid (Mom M ((bts s).take j) g1 r1) := hm1
        have HB1 : Hid (Below w.heap.size w wr) := hb1
        clear HJ hm1 hwk1 hb1 hT1 hlt1 hr1
        go_wp2_with fail
        refine HBY.out.mono ?_
        rintro e w3 ⟨rfl, hg3, g2, hcl, hwk3⟩
        have HJ2 : Hid (∃ g r, Mom M ((bts s).take (j + 1)) g r ∧ WkAt w1.heap.size w3 Wb M M.rs.length g r (decide (0 < j + 1)) ∧ Below w.heap.size w w3) := by
          refine ⟨g2, r1 ||| rulesG M.rs g2, ?_, ?_, HB1.out.grown hg3 HB1.out.size (fun k e => by cases e; exact hWlo)⟩
          · rw [HTK.out]; exact .byte _ _ _ _ _ HM1.out hcl
          · rw [decide_eq_true (by omega)]; exact hwk3
        clear hg3 hcl hwk3 HBY
        go_wp2
        go_roundw
        case rel => exact ⟨j + 1, by go_num, by omega, HJ2⟩
        case measure => simp [intOf]; omega
      · have hlt' : ¬ (j : Int) < (s.size : Int) := by omega
        have hcn := hm1.cnt
        have HEND : Hid (Calls Tryd.prog 11 #[.pointer (some ⟨Wb, 0, none⟩)] wr _) := end_any Wb wr hwk1 HF.out hT1 hr he hr1 hlt1 hcn
        have htk : (bts s).take j = bts s := List.take_of_length_le (by rw [bts_length]; omega)
        have hbg : (!decide (0 < j)) = decide (bts s = []) := by
          have e : j = (bts s).length := by rw [bts_length]; omega
          rw [e]
          cases hb : bts s <;> simp
        rw [htk] at hm1
        rw [hbg] at HEND
        have HM1 : Hid (Mom M (bts s) g1 r1) := hm1
        have HB1 : Hid (Below w.heap.size w wr) := hb1
        clear HJ hm1 hwk1 hb1 hT1 hlt1 hr1 hcn htk hbg
        go_wp2_with fail
        refine HEND.out.mono ?_
        rintro e w3 ⟨v, rfl, hen, k3⟩
        have HL : Hid (LineOf M (bts s) v) := ⟨g1, r1, HM1.out, hen⟩
        have HB3 : Hid (Below w.heap.size w w3) := below_step HB1.out k3
        clear hen k3 HEND
        go_wp2
        go_ret2
        exact ⟨HB3.out, v, by rw [HOK.out]; rfl, by rw [HOK.out]; exact HL.out⟩
end Go.Proofs.YtmjnobdlgbojoaaDoor
