/- The walk of heronlaw01.CrcAgain. -/
import Derived.Test.YtejjnhaadoafpaaDoorOwn
import Derived.Deep.DeepMust
namespace Go.Proofs.YtejjnhaadoafpaaDoor
open Go.RowKit

set_option maxHeartbeats 1000000 in
theorem again_any (ab ac : Option Addr) (lb lc cb cc s : Nat) (zb zc : List Int) (w : World) (hT : Tab w) (h0 : 0 < w.heap.size) (hs : s < 4294967296)
    (hb : BytesAt w ab zb) (hc : BytesAt w ac zc) (hbb : Crc.Bs zb) (hbc : Crc.Bs zc) (hlb : zb.length = lb) (hlc : zc.length = lc) (hcb : lb ≤ cb) (hcc : lc ≤ cc) (hmb : cb ≤ 140737488355328) (_hmc : cc ≤ 140737488355328) :
    Calls Tryd.prog 5 #[.slice ab lb cb, .slice ac lc cc, .int .u32 s] w fun e w' => e = .returned (.bool true) ∧ Below w.heap.size w w' := by
  have HT : Hid (Tab w) := hT
  have HB : Hid (BytesAt w ab zb) := hb
  have HC : Hid (BytesAt w ac zc) := hc
  have HBB : Hid (Crc.Bs zb) := hbb
  have HBC : Hid (Crc.Bs zc) := hbc
  have HLB : Hid (zb.length = lb) := hlb
  have HLC : Hid (zc.length = lc) := hlc
  obtain ⟨n, hn1, hn2, hif⟩ : ∃ n : Nat, n ≤ lb ∧ n ≤ lc ∧ ∀ (ts : Array TypeId) (t : TypeId) (W : World), (Builtin.min_ ts t #[.int .i64 (lb : Int), .int .i64 (lc : Int)]).run Tryd.prog W = .ok (.int .i64 (n : Int)) W := by
    refine ⟨min lb lc, by omega, by omega, fun ts t W => ?_⟩
    rw [run_min_int2]
    congr 2
    split <;> omega
  clear hT hb hc hbb hbc hlb hlc
  go_enter Tryd.func5, Tryd.ntmps5
  go_wp2_with fail
  refine (known_any _ HT.out h0).mono ?_
  rintro e w1 ⟨rfl, hb1⟩
  have HB1 : Hid (Below w.heap.size w w1) := hb1
  have hz1 : w.heap.size ≤ w1.heap.size := hb1.size
  clear hb1
  have hk1 : 0 < w1.heap.size := by omega
  have HX : Hid ((zb.take n).length = n) := by show _ = _; rw [List.length_take, HLB.out]; omega
  have HY : Hid ((zc.take n).length = n) := by show _ = _; rw [List.length_take, HLC.out]; omega
  have hnm : n ≤ 140737488355328 := by omega
  have hnl : n ≤ maxLen := by unfold maxLen; omega
  have HBT : Hid (Crc.Bs (zb.take n)) := bs_take HBB.out n
  have HCT : Hid (Crc.Bs (zc.take n)) := bs_take HBC.out n
  go_wp2_with (at_builtin; go_must (refine wpList_append_fresh rfl (.tmp 26) (.tmp 29) rfl rfl ab cb n (zb.take n) rfl HX.out.symm (bytesAt_take n (bytesAt_later HB1.out HB.out)) hnm ?_; intro g c w2 ho2 hb2 hc2; have HO2 : Hid (Owns w2 w1.heap.size (.slice (some ⟨g, 0, none⟩) n c) (zb.take n)) := ho2; have HB2 : Hid (Below w.heap.size w w2) := below_trans HB1.out hb2 hz1; have hz2 : w.heap.size ≤ w2.heap.size := HB2.out.size; clear ho2 hb2))
  have HT2 : Hid (Tab w2) := tab_below HB2.out h0 HT.out
  have HK2 : Hid (Piece.Ok w2 ⟨some ⟨g, 0, none⟩, c, zb.take n⟩) := HO2.out.ok HBT.out (by rw [HX.out]; exact hnl)
  have hk2 : 0 < w2.heap.size := by omega
  refine (of_n _ c n (zb.take n) _ HX.out.symm HT2.out HK2.out).mono ?_
  rintro e w' ⟨rfl, rfl⟩
  go_wp2_with fail
  refine (of_n _ c n (zb.take n) _ HX.out.symm HT2.out HK2.out).mono ?_
  rintro e w' ⟨rfl, rfl⟩
  go_wp2_with fail
  refine (more_n _ _ c n (zb.take n) _ hs HX.out.symm HT2.out HK2.out).mono ?_
  rintro e w' ⟨rfl, rfl⟩
  go_wp2_with fail
  refine (more_n _ _ c n (zb.take n) _ hs HX.out.symm HT2.out HK2.out).mono ?_
  rintro e w' ⟨rfl, rfl⟩
  go_wp2_with fail
  refine (all_two _ c n (zb.take n) _ HX.out.symm HT2.out hk2 HK2.out).mono ?_
  rintro e w3 ⟨rfl, hb3⟩
  have HO3 : Hid (Owns w3 w1.heap.size (.slice (some ⟨g, 0, none⟩) n c) (zb.take n)) := HO2.out.later hb3
  have HB3 : Hid (Below w.heap.size w w3) := below_trans HB2.out hb3 hz2
  have hz3 : w.heap.size ≤ w3.heap.size := HB3.out.size
  have HT3 : Hid (Tab w3) := tab_below HB3.out h0 HT.out
  have HK3 : Hid (Piece.Ok w3 ⟨some ⟨g, 0, none⟩, c, zb.take n⟩) := HO3.out.ok HBT.out (by rw [HX.out]; exact hnl)
  have hk3 : 0 < w3.heap.size := by omega
  clear hb3 HO2 HB2 HT2 HK2 hk2
  go_wp2_with fail
  refine (all_two _ c n (zb.take n) _ HX.out.symm HT3.out hk3 HK3.out).mono ?_
  rintro e w4 ⟨rfl, hb4⟩
  have HO4 : Hid (Owns w4 w.heap.size (.slice (some ⟨g, 0, none⟩) n c) (zb.take n)) := (HO3.out.later hb4).lower hz1
  have HB4 : Hid (Below w.heap.size w w4) := below_trans HB3.out hb4 hz3
  have hz4 : w.heap.size ≤ w4.heap.size := HB4.out.size
  clear hb4 HO3 HB3 HT3 HK3 hk3 hz3 hz2
  go_wp2_with (first | (at_builtin; go_must (refine wpList_append_fresh rfl (.tmp 65) (.tmp 68) rfl rfl ac cc n (zc.take n) rfl HY.out.symm (bytesAt_take n (bytesAt_later HB5.out HC.out)) hnm ?_; intro g6 c6 w6 ho6 hb6 hc6; have HO6 : Hid (Owns w6 w5.heap.size (.slice (some ⟨g6, 0, none⟩) n c6) (zc.take n)) := ho6; have HQ6 : Hid (Owns w6 w.heap.size (.slice (some ⟨g, 0, none⟩) n c) (zc.take n)) := HO5.out.later hb6; have HB6 : Hid (Below w.heap.size w w6) := below_trans HB5.out hb6 hz5; have hz6 : w.heap.size ≤ w6.heap.size := HB6.out.size; clear ho6 hb6)) | (refine wpList_copy_bytes rfl (.tmp 49) (.tmp 50) rfl w.heap.size _ (zb.take n) rfl HO4.out ac cc lc zc HLC.out.symm rfl (bytesAt_later HB4.out HC.out) (by rw [HX.out, HLC.out]; omega) ?_; intro w5 ho5 hb5; rw [HX.out] at ho5; have HO5 : Hid (Owns w5 w.heap.size (.slice (some ⟨g, 0, none⟩) n c) (zc.take n)) := ho5; have HB5 : Hid (Below w.heap.size w w5) := HB4.out.trans hb5; have hz5 : w.heap.size ≤ w5.heap.size := HB5.out.size; clear ho5 hb5))
  have HT6 : Hid (Tab w6) := tab_below HB6.out h0 HT.out
  have HK6 : Hid (Piece.Ok w6 ⟨some ⟨g, 0, none⟩, c, zc.take n⟩) := HQ6.out.ok HCT.out (by rw [HY.out]; exact hnl)
  have HL6 : Hid (Piece.Ok w6 ⟨some ⟨g6, 0, none⟩, c6, zc.take n⟩) := HO6.out.ok HCT.out (by rw [HY.out]; exact hnl)
  have hk6 : 0 < w6.heap.size := by omega
  refine (of_n _ c n (zc.take n) _ HY.out.symm HT6.out HK6.out).mono ?_
  rintro e w' ⟨rfl, rfl⟩
  go_wp2_with fail
  refine (more_n _ _ c n (zc.take n) _ hs HY.out.symm HT6.out HK6.out).mono ?_
  rintro e w' ⟨rfl, rfl⟩
  go_wp2_with fail
  refine (all_two _ c n (zc.take n) _ HY.out.symm HT6.out hk6 HK6.out).mono ?_
  rintro e w7 ⟨rfl, hb7⟩
  have HB7 : Hid (Below w.heap.size w w7) := below_trans HB6.out hb7 hz6
  have hz7 : w.heap.size ≤ w7.heap.size := HB7.out.size
  have HT7 : Hid (Tab w7) := tab_below HB7.out h0 HT.out
  have HL7 : Hid (Piece.Ok w7 ⟨some ⟨g6, 0, none⟩, c6, zc.take n⟩) := ok_later hb7 HL6.out
  have hk7 : 0 < w7.heap.size := by omega
  clear hb7 HO6 HQ6 HB6 HT6 HK6 HL6 hk6
  go_wp2_with fail
  refine (of_n _ c6 n (zc.take n) _ HY.out.symm HT7.out HL7.out).mono ?_
  rintro e w' ⟨rfl, rfl⟩
  go_wp2_with fail
  refine (more_n _ _ c6 n (zc.take n) _ hs HY.out.symm HT7.out HL7.out).mono ?_
  rintro e w' ⟨rfl, rfl⟩
  go_wp2_with fail
  refine (all_two _ c6 n (zc.take n) _ HY.out.symm HT7.out hk7 HL7.out).mono ?_
  rintro e w8 ⟨rfl, hb8⟩
  have HB8 : Hid (Below w.heap.size w w8) := below_trans HB7.out hb8 hz7
  clear hb8
  go_wp2
  go_ret
  exact ⟨rfl, HB8.out⟩
end Go.Proofs.YtejjnhaadoafpaaDoor
