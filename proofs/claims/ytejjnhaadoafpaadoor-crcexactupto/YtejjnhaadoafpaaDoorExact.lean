/- The walk of heronlaw01.CrcExact. -/
import Derived.Test.YtejjnhaadoafpaaDoorRooms
namespace Go.Proofs.YtejjnhaadoafpaaDoor
open Go.RowKit

theorem mark_eq : ((strOfNums [109, 97, 114, 107]).toList == [109, 97, 114, 107]) = true := by decide +kernel

set_option maxHeartbeats 2000000 in
theorem exact_any (ab : Option Addr) (nb cb : Nat) (zb : List Int) (ap : Option Addr) (np cp s : Nat) (ps : List Piece) (w : World) (hT : Tab w) (h0 : 0 < w.heap.size) (hs : s < 4294967296)
    (hb : Piece.Ok w ⟨ab, cb, zb⟩) (hnb : nb = zb.length) (hlb : nb ≤ 1048576)
    (hp : PiecesAt w ap ps) (hok : ∀ p ∈ ps, p.Ok w) (hnp : ps.length = np) (hmp : np ≤ 1048576) (hbulk : (cat ps).length ≤ 1048576) :
    Calls Tryd.prog 6 #[.slice ab nb cb, .slice ap np cp, .int .u32 s] w fun e w' => e = .returned (.bool true) ∧ Below w.heap.size w w' := by
  have HT : Hid (Tab w) := hT
  have HKB : Hid (Piece.Ok w ⟨ab, cb, zb⟩) := hb
  have HNB : Hid (nb = zb.length) := hnb
  have HP : Hid (PiecesAt w ap ps) := hp
  have HOK : Hid (∀ p ∈ ps, p.Ok w) := hok
  have HNP : Hid (ps.length = np) := hnp
  have HBK : Hid ((cat ps).length ≤ 1048576) := hbulk
  have HBB : Hid (Crc.Bs zb) := hb.2.2
  have HLB : Hid (zb.length ≤ maxLen) := hb.1
  clear hT hb hnb hp hok hnp hbulk
  go_enter Tryd.func6, Tryd.ntmps6
  go_wp2_with fail
  refine (known_any _ HT.out h0).mono ?_
  rintro e w1 ⟨rfl, hb1⟩
  have HB1 : Hid (Below w.heap.size w w1) := hb1
  have hz1 : w.heap.size ≤ w1.heap.size := hb1.size
  have HK1 : Hid (Piece.Ok w1 ⟨ab, cb, zb⟩) := ok_later hb1 HKB.out
  clear hb1
  go_wp2_with fail
  refine (roomy_n ab cb nb zb w1 HNB.out hlb HK1.out).mono ?_
  rintro e w2 ⟨g, c, rfl, hroom, hb2, hc2, hcm2⟩
  have HR2 : Hid (Room w2 w1.heap.size g c zb) := hroom
  have HCM2 : Hid (c ≤ maxLen) := hcm2
  have HB2 : Hid (Below w.heap.size w w2) := below_trans HB1.out hb2 hz1
  have hz2 : w.heap.size ≤ w2.heap.size := HB2.out.size
  have HT2 : Hid (Tab w2) := tab_below HB2.out h0 HT.out
  have HK2 : Hid (Piece.Ok w2 ⟨ab, cb, zb⟩) := ok_later HB2.out HKB.out
  have HI2 : Hid (Piece.Ok w2 ⟨some ⟨g, 0, none⟩, c, zb⟩) := ⟨HLB.out, hroom.bytes.1, HBB.out⟩
  clear hroom hcm2 hb2 HB1 HK1
  go_wp2_with fail
  refine (of_n _ c nb zb _ HNB.out HT2.out HI2.out).mono ?_
  rintro e w' ⟨rfl, rfl⟩
  go_wp2_with fail
  refine (more_n s _ c nb zb _ hs HNB.out HT2.out HI2.out).mono ?_
  rintro e w' ⟨rfl, rfl⟩
  go_wp2_with fail
  refine (refOf_n ab cb nb zb _ HNB.out HK2.out).mono ?_
  rintro e w' ⟨rfl, rfl⟩
  go_wp2_with fail
  refine (refMore_n s ab cb nb zb _ hs HNB.out HK2.out).mono ?_
  rintro e w' ⟨rfl, rfl⟩
  go_wp2_with fail
  refine (kept_n w1.heap.size g c nb ab cb zb _ HNB.out hlb hc2 HCM2.out HR2.out HK2.out.2.1).mono ?_
  rintro e w3 ⟨rfl, hb3⟩
  have HB3 : Hid (Below w.heap.size w w3) := below_trans HB2.out hb3 hz2
  have hz3 : w.heap.size ≤ w3.heap.size := HB3.out.size
  clear hb3 HB2 hz2 HT2 HK2 HI2 HR2 HCM2 hc2
  go_wp2_with fail
  go_loopw [10, 44] (fun v i wr => ∃ (k : Nat) (rooms : List Piece), k ≤ np ∧ i = .int .i64 k ∧ rooms.length = k ∧ rooms.map (·.zs) = (ps.take k).map (·.zs) ∧ wr.ownsRow w.heap.size 24 1 v k (rooms.map Piece.val) ∧ (∀ p ∈ rooms, RoomP wr p) ∧ Below w.heap.size w wr)
    (fun _ i _ => np - (intOf i).toNat)
  case atStart => exact ⟨0, [], Nat.zero_le _, rfl, rfl, rfl, World.ownsRow_nil _ _ _ _, (fun p hp => by cases hp), HB3.out⟩
  case round =>
    obtain ⟨k, rooms, hk, rfl, hrl, hrz, hov, hrp, hbel⟩ := hrel
    have HRL : Hid (rooms.length = k) := hrl
    have HRZ : Hid (rooms.map (·.zs) = (ps.take k).map (·.zs)) := hrz
    have HOV : Hid (wr.ownsRow w.heap.size 24 1 u10 k (rooms.map Piece.val)) := hov
    have HRP : Hid (∀ p ∈ rooms, RoomP wr p) := hrp
    have HBL : Hid (Below w.heap.size w wr) := hbel
    clear hrl hrz hov hrp hbel HB3
    by_cases hlt : k < np
    · have hltp : k < ps.length := by rw [HNP.out]; exact hlt
      have hlen := cat_length_le ps (k + 1)
      have hcat := cat_snoc ps k hltp
      have htk : (ps.take (k + 1)).map (·.zs) = (ps.take k).map (·.zs) ++ [(ps.getD k Piece.nil).zs] := by
        rw [List.take_succ_eq_append_getElem hltp]
        rw [List.map_append]
        simp [List.getD, hltp]
      have hpk : ps.getD k Piece.nil ∈ ps := by
        have e : ps.getD k Piece.nil = ps[k] := by simp [List.getD, hltp]
        rw [e]; exact List.getElem_mem hltp
      have hokp := HOK.out _ hpk
      obtain ⟨b, off, e, hcell⟩ : ∃ b off, ap = some ⟨b, off, none⟩ ∧ wr.cell? ⟨b, off + k, none⟩ = some (ps.getD k Piece.nil).val := by
        rcases piecesAt_later HBL.out HP.out with h | ⟨b, off, e, hc⟩
        · rw [h] at hltp; simp at hltp
        · exact ⟨b, off, e, hc k hltp⟩
      subst e
      obtain ⟨q, hq⟩ : ∃ q, q = ps.getD k Piece.nil := ⟨_, rfl⟩
      rw [← hq] at hcell hokp hcat htk
      clear hq hpk hltp
      obtain ⟨a, cq, zs⟩ := q
      simp only [Piece.val] at hcell
      simp only at hcat htk
      obtain ⟨L, hL⟩ : ∃ L, zs.length = L := ⟨_, rfl⟩
      rw [hL] at hcell
      have hbk := HBK.out
      rw [hcat, List.length_append, hL] at hlen
      have hLl : L ≤ 1048576 := by omega
      have HTK : Hid ((ps.take (k + 1)).map (·.zs) = (ps.take k).map (·.zs) ++ [zs]) := htk
      have HL : Hid (L = zs.length) := hL.symm
      have HOKP : Hid (Piece.Ok wr ⟨a, cq, zs⟩) := ok_later HBL.out hokp
      have hzr : w.heap.size ≤ wr.heap.size := HBL.out.size
      clear hcat hL hokp hlen hbk htk
      go_wp2_with fail
      refine (roomy_n a cq L zs wr HL.out hLl HOKP.out).mono ?_
      rintro e w4 ⟨g4, c4, rfl, hroom, hb4, hc4, hcm4⟩
      have HB4 : Hid (Below w.heap.size w w4) := below_trans HBL.out hb4 hzr
      have HOV4 : Hid (w4.ownsRow w.heap.size 24 1 u10 k (rooms.map Piece.val)) := by
        have h1 := HOV.out
        refine ⟨h1.1, ?_⟩
        rcases h1.2 with h2 | ⟨g', cap, cur, hv, hBg, hg, rest⟩
        · exact Or.inl h2
        · exact Or.inr ⟨g', cap, cur, hv, hBg, by rw [hb4.block g' (Array.getElem?_eq_some_iff.1 hg).1]; exact hg, rest⟩
      have HRP4 : Hid (∀ p ∈ rooms ++ [⟨some ⟨g4, 0, none⟩, c4, zs⟩], RoomP w4 p) := by
        intro p hp
        rcases List.mem_append.1 hp with h | h
        · exact (HRP.out p h).later (bytes5_below hb4)
        · simp only [List.mem_singleton] at h
          subst h
          exact ⟨_, g4, rfl, hroom, by rw [← HL.out]; exact hc4, hcm4⟩
      clear hroom hb4 hc4 hcm4 HOV HRP HBL hzr
      go_wp2_with (at_builtin; go_must (refine wpList_append_slice (w0 := w) rfl (.tmp 48) (.tmp 51) rfl _ k _ rfl HOV4.out HB4.out (.slice (some ⟨g4, 0, none⟩) L c4) rfl rfl (by omega) ?_; intro g5 c5 w5 ho5 hb5 hk5 hc5 hm5; have HO5 : Hid (w5.ownsRow w.heap.size 24 1 (.slice (some ⟨g5, 0, none⟩) (k + 1) c5) (k + 1) (rooms.map Piece.val ++ [.slice (some ⟨g4, 0, none⟩) L c4])) := ho5; have HB5 : Hid (Below w.heap.size w w5) := hb5; have HK5 : Hid (Bytes5 w4 w5) := hk5; clear ho5 hb5 hk5 hm5))
      go_roundw
      case rel => exact ⟨k + 1, rooms ++ [⟨some ⟨g4, 0, none⟩, c4, zs⟩], by omega, by go_num, by simp [HRL.out], by rw [HTK.out, ← HRZ.out, List.map_append]; rfl, by rw [List.map_append]; have h := HO5.out; rw [HL.out] at h; exact h, fun p hp => (HRP4.out p hp).later HK5.out, HB5.out⟩
      case measure => simp [intOf]; omega
    · obtain rfl : k = np := by omega
      have ht : ps.take k = ps := List.take_of_length_le (by rw [HNP.out]; exact Nat.le_refl _)
      rw [ht] at HRZ
      clear ht hlt hk
      have kc := conv24
      have hzr : w.heap.size ≤ wr.heap.size := HBL.out.size
      have HRO : Hid (∀ p ∈ rooms, Crc.Bs p.zs ∧ p.zs.length ≤ maxLen ∧ p.zs.length ≤ 1048576) := fun p hp => by
        obtain ⟨q, hq, e⟩ := zs_mem HRZ.out hp
        rw [← e]
        refine ⟨(HOK.out q hq).2.2, (HOK.out q hq).1, ?_⟩
        have h1 := HBK.out
        obtain ⟨l1, l2, e2⟩ := List.append_of_mem hq
        rw [e2] at h1
        simp only [cat, List.flatMap_append, List.flatMap_cons, List.length_append] at h1
        omega
      go_wp2_with (at_builtin; go_must (refine wpList_append_sliceM (w0 := w) (w := wr.alloc (.cells #[.int .u8 109, .int .u8 97, .int .u8 114, .int .u8 107] 5 (4, 5))) (wr.heap.size + 1) (by simp) rfl (.tmp 54) (.tmp 57) rfl _ k _ rfl (HOV.out.alloc _) (HBL.out.alloc hzr _) (.slice (some ⟨wr.heap.size, 0, none⟩) 4 4) rfl rfl (by omega) ?_; intro g5 c5 w5 ho5 hb5 hk5 hc5 hm5; have HO5 : Hid (w5.ownsRow w.heap.size 24 1 (.slice (some ⟨g5, 0, none⟩) (k + 1) c5) (k + 1) (rooms.map Piece.val ++ [.slice (some ⟨wr.heap.size, 0, none⟩) 4 4])) := ho5; have HB5 : Hid (Below w.heap.size w w5) := hb5; have HK5 : Hid (Bytes5 (wr.alloc (.cells #[.int .u8 109, .int .u8 97, .int .u8 114, .int .u8 107] 5 (4, 5))) w5) := hk5; have HM5 : Hid (c5 ≤ maxLen) := hm5; have hcm5 : c5 ≤ 9223372036854775807 := hm5; clear ho5 hb5 hk5 hm5 kc))
      have HBY5 : Hid (Bytes5 wr w5) := (bytes5_below ((Below.refl _ _).alloc (Nat.le_refl _) _)).trans HK5.out
      have HRP5 : Hid (∀ p ∈ rooms, RoomP w5 p) := fun p hp => (HRP.out p hp).later HBY5.out
      have HMK5 : Hid (BytesAt w5 (some ⟨wr.heap.size, 0, none⟩) [109, 97, 114, 107]) := bytesAt_block (fr := (4, 5)) (HK5.out _ _ _ (heap_new wr _))
      have HPA5 : Hid (PiecesAt w5 (some ⟨g5, 0, none⟩) rooms) := ownsRow_pieces HO5.out
      have HMC5 : Hid (w5.cell? ⟨g5, k, none⟩ = some (.slice (some ⟨wr.heap.size, 0, none⟩) 4 4)) := by
        show _ = _
        rw [HO5.out.cellAt k (by omega)]
        rw [List.getElem?_append_right (by simp [HRL.out])]
        simp [HRL.out]
      have HT5 : Hid (Tab w5) := tab_below HB5.out h0 HT.out
      have HCE : Hid (cat rooms = cat ps) := cat_of_zs HRZ.out
      have hz5 : w.heap.size ≤ w5.heap.size := HB5.out.size
      obtain ⟨gm, hgm⟩ : ∃ gm, gm = wr.heap.size := ⟨_, rfl⟩
      rw [← hgm] at HMK5 HMC5
      clear HOV HRP HBL hzr HK5 HO5 HBY5 hgm
      refine (all_n _ c5 k rooms _ (Crc.more 0 (cat ps)) HRL.out.symm (by rw [HCE.out]) HT5.out (by unfold maxLen; omega) HPA5.out (fun p hp => (HRP5.out p hp).ok (HRO.out p hp).1 (HRO.out p hp).2.1)).mono ?_
      rintro e w6 ⟨rfl, rfl⟩
      obtain ⟨U, hU⟩ : ∃ U, U = Crc.more 0 (cat ps) := ⟨_, rfl⟩
      have HU : Hid (U = Crc.more 0 (cat ps)) := hU
      rw [← hU]
      clear hU
      go_wp2
      go_loopw [66] (fun i wq => ∃ j : Nat, j ≤ k ∧ i = .int .i64 j ∧ Below w6.heap.size w6 wq) (fun i _ => k - (intOf i).toNat)
      case atStart => exact ⟨0, Nat.zero_le _, rfl, Below.refl _ _⟩
      case round =>
        obtain ⟨j, hj, rfl, hbel⟩ := hrel
        have HBQ : Hid (Below w6.heap.size w6 wr) := hbel
        clear hbel
        by_cases hjl : j < k
        · have hjr : j < rooms.length := by rw [HRL.out]; exact hjl
          have hjp : j < ps.length := by rw [HNP.out]; exact hjl
          have hze := zs_at HRZ.out hjr
          have hrk : rooms.getD j Piece.nil ∈ rooms := by
            have e : rooms.getD j Piece.nil = rooms[j] := by simp [List.getD, hjr]
            rw [e]; exact List.getElem_mem hjr
          have hpk : ps.getD j Piece.nil ∈ ps := by
            have e : ps.getD j Piece.nil = ps[j] := by simp [List.getD, hjp]
            rw [e]; exact List.getElem_mem hjp
          have hokp := ok_later (below_trans HB5.out HBQ.out hz5) (HOK.out _ hpk)
          have hro := HRO.out _ hrk
          obtain ⟨B, gr, ea, hroom, hcr, hcmr⟩ := (HRP5.out _ hrk).later (bytes5_below HBQ.out)
          obtain ⟨b, off, e, hcell⟩ : ∃ b off, ap = some ⟨b, off, none⟩ ∧ wr.cell? ⟨b, off + j, none⟩ = some (ps.getD j Piece.nil).val := by
            rcases piecesAt_later (below_trans HB5.out HBQ.out hz5) HP.out with h | ⟨b, off, e, hc⟩
            · rw [h] at hjp; simp at hjp
            · exact ⟨b, off, e, hc j hjp⟩
          subst e
          have hcell2 : wr.cell? ⟨g5, j, none⟩ = some (rooms.getD j Piece.nil).val := by
            rcases piecesAt_later HBQ.out HPA5.out with h | ⟨b, off, e, hc⟩
            · rw [h] at hjr; simp at hjr
            · cases e
              have := hc j hjr
              rw [Nat.zero_add] at this
              exact this
          obtain ⟨q, hq⟩ : ∃ q, q = ps.getD j Piece.nil := ⟨_, rfl⟩
          obtain ⟨r, hr⟩ : ∃ r, r = rooms.getD j Piece.nil := ⟨_, rfl⟩
          rw [← hq] at hcell hokp hze
          rw [← hr] at hcell2 hroom hcr hcmr hze ea hro
          clear hq hr hrk hpk hjr hjp
          obtain ⟨a, cq, zs⟩ := q
          obtain ⟨ar, cr, zr⟩ := r
          simp only at hze ea
          subst ea hze
          simp only [Piece.val] at hcell hcell2
          simp only at hroom hcr hcmr hro
          obtain ⟨L, hL⟩ : ∃ L, L = zr.length := ⟨_, rfl⟩
          rw [← hL] at hcell hcell2 hcr hro
          have HL : Hid (L = zr.length) := hL
          have HROOM : Hid (Room wr B gr cr zr) := hroom
          have HCR : Hid (cr ≤ maxLen) := hcmr
          have HBA : Hid (BytesAt wr a zr) := hokp.2.1
          have hLl : L ≤ 1048576 := hro.2.2
          have hzq : w6.heap.size ≤ wr.heap.size := HBQ.out.size
          clear hL hroom hcmr hokp hro
          go_wp2_with fail
          refine (kept_n B gr cr L a cq zr _ HL.out hLl hcr HCR.out HROOM.out HBA.out).mono ?_
          rintro e w7 ⟨rfl, hb7⟩
          have HB7 : Hid (Below w6.heap.size w6 w7) := below_trans HBQ.out hb7 hzq
          clear hb7 HROOM HBA hcell hcell2 HBQ
          go_wp2
          go_roundw
          case rel => exact ⟨j + 1, by omega, by go_num, HB7.out⟩
          case measure => simp [intOf]; omega
        · have HBW : Hid (Below w.heap.size w wr) := below_trans HB5.out HBQ.out hz5
          have hzw : w.heap.size ≤ wr.heap.size := HBW.out.size
          have hzq : w6.heap.size ≤ wr.heap.size := HBQ.out.size
          go_wp2_with fail
          refine (refAll_n ap k cp ps wr (piecesAt_later HBW.out HP.out) (fun p hp => ok_later HBW.out (HOK.out p hp)) HNP.out (by unfold maxLen; omega) HBK.out).mono ?_
          rintro e w8 ⟨rfl, hb8⟩
          have HB8 : Hid (Below w6.heap.size w6 w8) := below_trans HBQ.out hb8 hzq
          have HBE : Hid (Below w.heap.size w w8) := below_trans HBW.out hb8 hzw
          rw [← HU.out]
          have hmc : w8.cell? ⟨g5, k, none⟩ = some (.slice (some ⟨gm, 0, none⟩) 4 4) := by
            rw [HB8.out.cell (p := ⟨g5, k, none⟩) (World.block_lt_of_cell? w6 _ HMC5.out)]; exact HMC5.out
          have hcs : (convert 24 9 (.slice (some ⟨gm, 0, none⟩) 4 4)).run Tryd.prog w8 = .ok (.string (strOfNums [109, 97, 114, 107])) w8 := conv_string w8 _ 4 4 [109, 97, 114, 107] rfl (bytesAt_later HB8.out HMK5.out)
          have hmk := mark_eq
          clear hb8 HBQ HBW
          go_wp2
          go_ret
          exact ⟨rfl, HBE.out⟩
end Go.Proofs.YtejjnhaadoafpaaDoor
