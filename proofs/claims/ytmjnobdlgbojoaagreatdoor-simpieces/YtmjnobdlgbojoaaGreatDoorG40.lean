
import Derived.Test.YtmjnobdlgbojoaaGreatDoorG38
import Derived.Test.YtmjnobdlgbojoaaGreatDoorG39
import Derived.Deep.RegionWith
import Derived.Test.YtmjnobdlgbojoaaGreatDoorG00
import Derived.Laws.BytesArg
import Derived.Laws.CopyOwn
import Derived.Deep.AppendLies
import Derived.OwnWalk
import Derived.WideShapes
import Derived.Test.YtmjnobdlgbojoaaGreatDoorG04
namespace Go.Proofs.YtmjnobdlgbojoaaGreatDoor
open Go.RowKit
attribute [local go_sem ↓] Go.wp_at_zero Go.wp_at_succ
theorem and_of_or2 {a b : Nat} (ha : a < 4294967296) (hb : b < 4294967296) : bits .and .u32 ((a ||| b : Nat) : Int) (a : Nat) = (a : Nat) := by
  rw [u32_and_nat _ _ (or_lt32 ha hb) ha]
  congr 1
  apply Nat.eq_of_testBit_eq
  intro k
  rw [Nat.testBit_and, Nat.testBit_or]
  cases a.testBit k <;> simp
theorem and_or_of {a b : Nat} (ha : a < 4294967296) (hb : b < 4294967296) : bits .and .u32 (a : Nat) ((a ||| b : Nat) : Int) = (a : Nat) := by
  rw [u32_and_nat _ _ ha (or_lt32 ha hb)]
  congr 1
  apply Nat.eq_of_testBit_eq
  intro k
  rw [Nat.testBit_and, Nat.testBit_or]
  cases a.testBit k <;> simp
theorem fold_take {Rs : List Nat} {k R : Nat} (h : Rs[k]? = some R) : (Rs.take (k + 1)).foldl (· ||| ·) 0 = (Rs.take k).foldl (· ||| ·) 0 ||| R := by
  rw [List.take_add_one, h, Option.toList_some, List.foldl_append]
  rfl
structure Gm (w : World) (ts : List Tn) (Ms : List Ma) (ta la : Option Addr) (xs : List Nd) (ys : List Nf) (z : Nf) : Prop where
  g : Gath ts Ms
  t : RowAt (fun _ => True) w ta xs
  xl : xs.length = ts.length
  i : ∀ (k : Nat) (t : Tn) (x : Nd), ts[k]? = some t → xs[k]? = some x → InAt w t x
  l : LAt w la ys
  yl : ys.length = Ms.length
  m : ∀ (k : Nat) (M : Ma) (y : Nf), Ms[k]? = some M → ys[k]? = some y → MaAt (fun _ => True) w M y
  a : MaAt (fun _ => True) w (uni Ms) z
  tb : Tab w
theorem Gm.later {w w' : World} {ts : List Tn} {Ms : List Ma} {ta la : Option Addr} {xs : List Nd} {ys : List Nf} {z : Nf} (h : Gm w ts Ms ta la xs ys z) (hb : Below w.heap.size w w') : Gm w' ts Ms ta la xs ys z :=
  ⟨h.g, h.t.keep (fun _ h _ => h) (fun b _ hl => hb.block b hl), h.xl, fun k t x ht hx => (h.i k t x ht hx).later hb, h.l.later hb, h.yl, fun k M y hM hy => (h.m k M y hM hy).later hb, h.a.later hb, h.tb.later hb⟩
set_option maxRecDepth 8000 in
set_option maxHeartbeats 32000000 in
theorem lmeets_any {ts : List Tn} {Ms : List Ma} {ta la : Option Addr} {xs : List Nd} {ys : List Nf} {z : Nf} (K tc lc : Nat) (line : ByteArray) (w : World) (h : Gm w ts Ms ta la xs ys z) (hK : K = ts.length) (hl : line.size ≤ 8) :
    Calls Tryz.prog 8 #[.slice ta K tc, .slice la K lc, z.val, .string line] w fun e w' => e = .returned (.bool true) ∧ Below w.heap.size w w' := by
  have kk : Below w.heap.size w (w.alloc (.cells #[.int .i64 z.S, .slice z.ea z.en z.ec, .slice z.ra z.rn z.rc] 37)) := (Below.refl _ _).alloc (Nat.le_refl _) _
  have HNA : Hid (NFB (w.alloc (.cells #[.int .i64 z.S, .slice z.ea z.en z.ec, .slice z.ra z.rn z.rc] 37)) w.heap.size z) := nfb_new w z
  have HB : Hid (Below w.heap.size w (w.alloc (.cells #[.int .i64 z.S, .slice z.ea z.en z.ec, .slice z.ra z.rn z.rc] 37))) := kk
  have HM : Hid (Gm w ts Ms ta la xs ys z) := h
  have HLEN : Hid (K = ts.length ∧ K = Ms.length ∧ K ≤ 4) := ⟨hK, by rw [hK]; exact h.g.l, by rw [hK, h.g.l]; exact h.g.n⟩
  have hK4 : K ≤ 4 := by rw [hK, h.g.l]; exact h.g.n
  have HSZ : Hid ((uni Ms).es.length ≤ 20000 ∧ (uni Ms).rs.length ≤ 20000) := h.g.size
  have HMG : Hid (∀ u, Below w.heap.size w u → Gm u ts Ms ta la xs ys z) := fun u hu => h.later hu
  obtain ⟨w1, hw1⟩ : ∃ w1, w.alloc (.cells #[.int .i64 z.S, .slice z.ea z.en z.ec, .slice z.ra z.rn z.rc] 37) = w1 := ⟨_, rfl⟩
  have HW1 : Hid (w.alloc (.cells #[.int .i64 z.S, .slice z.ea z.en z.ec, .slice z.ra z.rn z.rc] 37) = w1) := hw1
  rw [hw1] at HNA HB
  obtain ⟨A, hA⟩ : ∃ A, w.heap.size = A := ⟨_, rfl⟩
  have HAA : Hid (w.heap.size = A) := hA
  rw [hA] at HNA
  have HBG : Hid (Calls Tryz.prog 12 #[z.val] w1 (BeginPost w1 (uni Ms))) := begin_any (uni Ms) z w1 (HMG.out w1 HB.out).a (by have := HSZ.out; omega) (by have := HSZ.out; omega) h.g.words (HMG.out w1 HB.out).tb
  have HF : Hid (Fits (uni Ms) (uni Ms).rs.length) := h.g.fits
  have HRT : Hid (rightOf (uni Ms) = true) := h.g.right
  clear hw1 hA kk h hK HM
  obtain ⟨zS, za, zn, zc, zra, zrn, zrc⟩ := z
  unfold Nf.val at HBG ⊢
  simp only at HW1 HNA HBG ⊢
  go_enter Tryz.func8, Tryz.ntmps8
  go_upto_region 1 with fail
  rw [HW1.out, HAA.out]
  clear HW1 HAA
  obtain ⟨b0, b1, b2⟩ := HNA.out.cells
  simp only at b0 b1 b2
  go_wp2_with fail
  refine HBG.out.mono ?_
  rintro e w2 ⟨k2, hp⟩
  rcases hp with ⟨hx, _⟩ | ⟨_, Wb, g0, r0, rfl, hm0, hk0⟩
  · exact absurd (hx.symm.trans HRT.out) (by decide)
  have HN2 : Hid (NFB w2 A ⟨zS, za, zn, zc, zra, zrn, zrc⟩) := HNA.out.later k2
  have HB2 : Hid (Below w.heap.size w w2) := below_step HB.out k2
  have HWB : Hid (w1.heap.size ≤ Wb ∧ w.heap.size ≤ w1.heap.size ∧ 0 < w1.heap.size) := ⟨hk0.1, HB.out.size, by have h1 := HB.out.size; have h2 := (HMG.out w (Below.refl _ _)).tb.pos; omega⟩
  have HIN : Hid (0 ≤ line.size → ∃ g r, Mom (uni Ms) ((bts line).take 0) g r ∧ WkAt w1.heap.size w2 Wb (uni Ms) (uni Ms).rs.length g r (decide (0 < 0)) ∧ (0 : Nat) < 4294967296 ∧ ∃ q, r = 0 ||| q) := fun _ => ⟨g0, r0, hm0, hk0, by decide, r0, by rw [Nat.zero_or]⟩
  obtain ⟨B1, hB1⟩ : ∃ B1, B1 = w1.heap.size := ⟨_, rfl⟩
  rw [← hB1] at HIN HWB
  clear hB1 hm0 hk0 k2 HBG HNA HB b0 b1 b2
  go_wp2_with fail
  go_loopw [12, 11] (fun q v11 v => ∃ n r0 : Nat, q = .int .i64 (n : Nat) ∧ v11 = .int .u32 (r0 : Nat) ∧ n ≤ line.size + 1 ∧ Hid (Below w.heap.size w v) ∧ Hid (NFB v A ⟨zS, za, zn, zc, zra, zrn, zrc⟩) ∧ Hid (n ≤ line.size → ∃ g r, Mom (uni Ms) ((bts line).take n) g r ∧ WkAt B1 v Wb (uni Ms) (uni Ms).rs.length g r (decide (0 < n)) ∧ r0 < 4294967296 ∧ ∃ q, r = r0 ||| q)) (fun q _ _ => line.size + 1 - (intOf q).toNat)
  case atStart => exact ⟨0, 0, rfl, rfl, by omega, HB2, HN2, HIN⟩
  case round =>
    clear HB2 HN2 HIN
    obtain ⟨n, rw0, rfl, rfl, hn, HBn, HNn, HIn⟩ := hrel
    obtain ⟨u1, hu1⟩ : ∃ u1, u1 = wr := ⟨_, rfl⟩
    subst hu1
    by_cases hns : n ≤ line.size
    · have hns' : (n : Int) ≤ (line.size : Int) := by omega
      obtain ⟨g, r, hmm, hwk, hr0, q, hq⟩ := HIn.out hns
      have HMO : Hid (Mom (uni Ms) ((bts line).take n) g r) := hmm
      have HWK : Hid (WkAt B1 u1 Wb (uni Ms) (uni Ms).rs.length g r (decide (0 < n))) := hwk
      have HQ : Hid (r = rw0 ||| q ∧ rw0 < 4294967296 ∧ q < 4294967296 ∧ r < 4294967296) := ⟨hq, hr0, by
        have h1 : q ≤ rw0 ||| q := Nat.right_le_or
        have h2 := hmm.r32 HF.out
        omega, hmm.r32 HF.out⟩
      obtain ⟨lp, hlp⟩ : ∃ lp, lp = line.extract 0 n := ⟨_, rfl⟩
      have HLP : Hid (lp = line.extract 0 n) := hlp
      have HBT : Hid (bts lp = (bts line).take n) := by show _ = _; rw [hlp]; exact bts_extract line n
      have hls : lp.size ≤ 8 := by
        have h1 := bts_length lp
        rw [HBT.out, List.length_take, bts_length] at h1
        omega
      obtain ⟨Rs, hRl, hRk, hRa⟩ := (HMG.out u1 HBn.out).g.line lp
      have HRL : Hid (Rs.length = K) := by show _ = _; rw [hRl]; exact HLEN.out.2.1.symm
      have HRK : Hid (∀ (k : Nat) (M : Ma) (R : Nat), Ms[k]? = some M → Rs[k]? = some R → LineOf M (bts lp) R) := hRk
      have HRA : Hid (LineOf (uni Ms) (bts lp) (Rs.foldl (· ||| ·) 0)) := hRa
      clear hmm hwk hr0 hq hlp hRl hRk hRa HIn
      go_wp2_with fail
      go_loopw [14, 13] (fun q v13 v => ∃ k t : Nat, q = .int .i64 (k : Nat) ∧ v13 = .int .u32 (t : Nat) ∧ k ≤ K ∧ Hid (Below u1.heap.size u1 v) ∧ Hid (t = (Rs.take k).foldl (· ||| ·) 0 ∧ t < 4294967296)) (fun q _ _ => K - (intOf q).toNat)
      case atStart => exact ⟨0, 0, rfl, rfl, Nat.zero_le _, Below.refl _ _, ⟨rfl, by decide⟩⟩
      case round =>
        obtain ⟨k, t13, rfl, rfl, hk, HBk, HTk⟩ := hrel
        have HBw : Hid (Below w.heap.size w wr) := below_step HBn.out HBk.out
        by_cases hkK : k < K
        · have hkK' : (k : Int) < (K : Int) := by omega
          have gm := HMG.out wr HBw.out
          obtain ⟨t, ht⟩ : ∃ t, ts[k]? = some t := ⟨_, List.getElem?_eq_getElem (by have := HLEN.out; omega)⟩
          obtain ⟨x, hx⟩ : ∃ x, xs[k]? = some x := ⟨_, List.getElem?_eq_getElem (by have := HLEN.out; have := gm.xl; omega)⟩
          obtain ⟨M, hM⟩ : ∃ M, Ms[k]? = some M := ⟨_, List.getElem?_eq_getElem (by have := HLEN.out; omega)⟩
          obtain ⟨y, hy⟩ : ∃ y, ys[k]? = some y := ⟨_, List.getElem?_eq_getElem (by have := HLEN.out; have := gm.yl; omega)⟩
          obtain ⟨R, hR⟩ : ∃ R, Rs[k]? = some R := ⟨_, List.getElem?_eq_getElem (by have := HRL.out; omega)⟩
          have hpm := gm.g.pm k t M ht hM
          have HPM : Hid (Pm (7 * k) t M) := hpm
          have HLR : Hid (LineOf M (bts lp) R) := HRK.out k M R hM hR
          have HRR : Hid (Rs[k]? = some R) := hR
          have HTK : Hid (∀ u, Below wr.heap.size wr u → Calls Tryz.prog 26 #[x.val, .string (line.extract 0 n)] u (LTakesPost u lp t)) := fun u hu => by
            rw [← HLP.out]
            exact ltakes_any hls u ((gm.later hu).i k t x ht hx) hpm.p hpm.s
          have HLN : Hid (∀ u, Below wr.heap.size wr u → Calls Tryz.prog 10 #[y.val, .string (line.extract 0 n)] u fun e w' => e = .returned (.tuple #[.int .u32 (R : Nat), .int .i64 0]) ∧ Below u.heap.size u w') := fun u hu => by
            rw [← HLP.out]
            refine (line_any M y lp u (by unfold maxLen; omega) ((gm.later hu).m k M y hM hy) (by have := hpm.size; omega) (by have := hpm.size; omega) hpm.words (gm.later hu).tb).mono ?_
            rintro e w' ⟨hb, v, rfl, hv⟩
            rw [hpm.right] at hv ⊢
            have e1 : v = R := LineOf.uniq hv HLR.out
            subst e1
            exact ⟨rfl, hb⟩
          obtain ⟨nb, off, hab, q0, q1, q2, q3, q4, q5, q6, q7⟩ := gm.t.nth hx
          obtain ⟨nl, ol, hal, p0, p1, p2⟩ := gm.l.nth hy
          subst hab hal
          have hR32 : R < 4294967296 := HLR.out.lt hpm.fits
          clear gm ht hM hR hpm hx hy
          obtain ⟨xk, xss, xa, xn, xc, xmn, xmx⟩ := x
          obtain ⟨yS, ya, yn, yc, yra, yrn, yrc⟩ := y
          unfold Nd.val at HTK
          unfold Nf.val at HLN
          simp only at q0 q1 q2 q3 q4 q5 q6 q7 p0 p1 p2 HTK HLN
          go_upto_region 12 with fail
          go_cut [15, 16] (fun v15 v16 wx => ∃ yes over : Bool, v15 = .bool yes ∧ v16 = .bool over ∧ Hid (Below wr.heap.size wr wx) ∧ Hid (over = false → (yes = true ↔ ∃ i j, j ≤ lp.size ∧ Tk lp t i j)))
          case first =>
            go_region_with (go_at_call 26; refine (HTK.out _ ((Below.refl _ _).drew)).mono ?_; rintro e u ⟨hu, yes, over, rfl, hyx⟩; have HFI : Hid (Below wr.heap.size wr u ∧ (over = false → (yes = true ↔ ∃ i j, j ≤ lp.size ∧ Tk lp t i j))) := ⟨((Below.refl _ wr).drew).trans hu, hyx⟩; clear hu hyx)
            all_goals
              go_wp2_with fail
              go_meet
              case rel => exact ⟨_, _, rfl, rfl, HFI.out.1, HFI.out.2⟩
          case rest =>
            obtain ⟨yes, over, rfl, rfl, HBx, HYX⟩ := hcut
            obtain ⟨u2, hu2⟩ : ∃ u2, u2 = wc := ⟨_, rfl⟩
            subst hu2
            have HBx2 : Hid (Below w.heap.size w u2) := below_step HBw.out HBx.out
            cases over with
            | true =>
              go_wp2
              go_ret
              exact ⟨rfl, HBx2.out⟩
            | false =>
              have HY : Hid (yes = true ↔ ∃ i j, j ≤ lp.size ∧ Tk lp t i j) := HYX.out rfl
              have s0 := (HBx.out.cell (p := ⟨nl, ol + k * 3, none⟩) (lt_of_cell p0)).trans p0
              have s1 := (HBx.out.cell (p := ⟨nl, ol + k * 3 + 1, none⟩) (lt_of_cell p1)).trans p1
              have s2 := (HBx.out.cell (p := ⟨nl, ol + k * 3 + 2, none⟩) (lt_of_cell p2)).trans p2
              clear q0 q1 q2 q3 q4 q5 q6 q7 p0 p1 p2 HTK HYX
              go_upto_region 15 with fail
              go_cut [17, 18] (fun v17 v18 wx => v17 = .int .u32 (R : Nat) ∧ v18 = .int .i64 0 ∧ Hid (Below u2.heap.size u2 wx))
              case first =>
                go_region_with (go_at_call 10; refine (HLN.out _ (below_step HBx.out ((Below.refl _ _).drew))).mono ?_; rintro e u ⟨rfl, hu⟩; have HFI : Hid (Below u2.heap.size u2 u) := ((Below.refl _ u2).drew).trans hu; clear hu)
                all_goals
                  go_wp2_with fail
                  go_meet
                  case rel => exact ⟨rfl, rfl, HFI⟩
              case rest =>
                obtain ⟨rfl, rfl, HBy⟩ := hcut
                have HBz : Hid (Below u1.heap.size u1 wc) := below_step (below_step HBk.out HBx.out) HBy.out
                clear s0 s1 s2 HLN
                have HT2 : Hid (t13 ||| R = (Rs.take (k + 1)).foldl (· ||| ·) 0 ∧ t13 ||| R < 4294967296) := ⟨by rw [fold_take HRR.out, ← HTk.out.1], or_lt32 HTk.out.2 hR32⟩
                have HOR : Hid (bits .or .u32 (t13 : Nat) (R : Nat) = ((t13 ||| R : Nat) : Int)) := u32_or_nat t13 R HTk.out.2 hR32
                obtain ⟨T2, hT2⟩ : ∃ T2, T2 = t13 ||| R := ⟨_, rfl⟩
                rw [← hT2] at HT2 HOR
                have hor := HOR.out
                clear hT2
                have hmt := HPM.out.meets HLR.out
                have h4 : k = 0 ∨ k = 1 ∨ k = 2 ∨ k = 3 := by omega
                have HFIN : Hid (∀ v, bits .or .u32 (t13 : Nat) (R : Nat) = v → v = (T2 : Nat)) := fun v hv => hv.symm.trans HOR.out
                rcases hmt with ⟨hR2, hex⟩ | ⟨hR0, hnx⟩
                · have hyes : yes = true := HY.out.2 hex
                  subst hyes
                  clear hex HY
                  have e2 : ((R : Int) == ((2 ^ (7 * k) : Nat) : Int)) = true := by rw [hR2]; simp
                  have e3 : (2 : Int) ^ (7 * k) % 4294967296 = (R : Nat) := by
                    rw [hR2]
                    rcases h4 with rfl | rfl | rfl | rfl <;> decide
                  have hR2' : Hid (R = 2 ^ (7 * k)) := hR2
                  clear hR2 h4
                  go_wp2
                  go_roundw
                  case rel => exact ⟨k + 1, T2, by go_num, rfl, by omega, HBz, HT2⟩
                  case measure => simp [intOf]; omega
                · have hyes : yes = false := by
                    cases yes with
                    | false => rfl
                    | true => obtain ⟨i, j, h1, h2⟩ := HY.out.1 rfl; exact absurd h2 (hnx i j h1)
                  subst hyes
                  clear hnx HY
                  subst hR0
                  obtain ⟨P2, hP2⟩ : ∃ P2 : Nat, P2 = 2 ^ (7 * k) := ⟨_, rfl⟩
                  have e3 : (2 : Int) ^ (7 * k) % 4294967296 = (P2 : Nat) := by
                    rw [hP2]
                    rcases h4 with rfl | rfl | rfl | rfl <;> decide
                  have hpos : P2 ≠ 0 := by rw [hP2]; exact Nat.ne_of_gt (Nat.pow_pos (by decide))
                  have e4 : ¬ (0 : Int) = (P2 : Int) := by omega
                  clear hP2 h4
                  go_wp2
                  go_roundw
                  case rel => exact ⟨k + 1, T2, by go_num, congrArg (Value.int .u32) HOR.out, by omega, HBz, HT2⟩
                  case measure => simp [intOf]; omega
        · have hkK' : ¬ (k : Int) < (K : Int) := by omega
          have gm := HMG.out wr HBw.out
          obtain ⟨R, hRe⟩ : ∃ R, R = Rs.foldl (· ||| ·) 0 := ⟨_, rfl⟩
          have htR : t13 = R := by
            rw [hRe, HTk.out.1, List.take_of_length_le (by have := HRL.out; omega)]
          have HRA2 : Hid (LineOf (uni Ms) (bts lp) R) := by have h := HRA.out; rw [← hRe] at h; exact h
          subst htR
          have hR32 : t13 < 4294967296 := HTk.out.2
          have HLN : Hid (∀ u, Below wr.heap.size wr u → Calls Tryz.prog 10 #[.agg #[.int .i64 zS, .slice za zn zc, .slice zra zrn zrc], .string (line.extract 0 n)] u fun e w' => e = .returned (.tuple #[.int .u32 (t13 : Nat), .int .i64 0]) ∧ Below u.heap.size u w') := fun u hu => by
            rw [← HLP.out]
            refine (line_any (uni Ms) ⟨zS, za, zn, zc, zra, zrn, zrc⟩ lp u (by unfold maxLen; omega) (gm.later hu).a (by have := HSZ.out; omega) (by have := HSZ.out; omega) gm.g.words (gm.later hu).tb).mono ?_
            rintro e w' ⟨hb, v, rfl, hv⟩
            rw [HRT.out] at hv ⊢
            have e1 : v = t13 := LineOf.uniq hv HRA2.out
            subst e1
            exact ⟨rfl, hb⟩
          clear gm hRe
          have HNk : Hid (NFB wr A ⟨zS, za, zn, zc, zra, zrn, zrc⟩) := HNn.out.later HBk.out
          obtain ⟨b0, b1, b2⟩ := HNk.out.cells
          simp only at b0 b1 b2
          go_upto_region 19 with fail
          go_cut [19, 20] (fun v17 v18 wx => v17 = .int .u32 (t13 : Nat) ∧ v18 = .int .i64 0 ∧ Hid (Below wr.heap.size wr wx))
          case first =>
            go_region_with (go_at_call 10; refine (HLN.out _ ((Below.refl _ _).drew)).mono ?_; rintro e u ⟨rfl, hu⟩; have HFI : Hid (Below wr.heap.size wr u) := ((Below.refl _ wr).drew).trans hu; clear hu)
            all_goals
              go_wp2_with fail
              go_meet
              case rel => exact ⟨rfl, rfl, HFI⟩
          case rest =>
            obtain ⟨rfl, rfl, HBy⟩ := hcut
            have HBz : Hid (Below u1.heap.size u1 wc) := below_step HBk.out HBy.out
            have HBv : Hid (Below w.heap.size w wc) := below_step HBn.out HBz.out
            have HWz : Hid (WkAt B1 wc Wb (uni Ms) (uni Ms).rs.length g r (decide (0 < n))) := HWK.out.later HBz.out
            have HNz : Hid (NFB wc A ⟨zS, za, zn, zc, zra, zrn, zrc⟩) := HNn.out.later HBz.out
            have HRU : Hid (Calls Tryz.prog 15 #[.pointer (some ⟨Wb, 0, none⟩)] wc fun e w' => e = .returned (.int .u32 (r : Nat)) ∧ w' = wc) := rules_any Wb wc HWz.out
            have HEN : Hid (Calls Tryz.prog 16 #[.pointer (some ⟨Wb, 0, none⟩)] wc fun e w' => e = .returned (.int .u32 (t13 : Nat)) ∧ Below wc.heap.size wc w') := by
              refine (end_any Wb wc HWz.out HF.out (HMG.out wc HBv.out).tb (by have := HSZ.out; omega) (by have := HSZ.out; omega) HQ.out.2.2.2 (HMO.out.lt HF.out) HMO.out.cnt).mono ?_
              rintro e w' ⟨x, rfl, hx, hb⟩
              have h1 : LineOf (uni Ms) (bts lp) x := by
                rw [HBT.out]
                refine ⟨g, r, HMO.out, ?_⟩
                have e : decide ((bts line).take n = []) = !decide (0 < n) := by
                  rw [Bool.eq_iff_iff, Bool.not_eq_true', decide_eq_true_eq, decide_eq_false_iff_not, ← List.length_eq_zero_iff, List.length_take, bts_length]
                  omega
                rw [e]
                exact hx
              have e2 : x = t13 := h1.uniq HRA2.out
              subst e2
              exact ⟨rfl, hb⟩
            have hand1 : bits .and .u32 (r : Nat) (rw0 : Nat) = (rw0 : Nat) := by rw [HQ.out.1]; exact and_of_or2 HQ.out.2.1 HQ.out.2.2.1
            have hand2 : bits .and .u32 (r : Nat) (t13 : Nat) = (r : Nat) := by
              have h1 := HRA2.out
              rw [HBT.out] at h1
              obtain ⟨g', r', hm', h2, _, e⟩ := h1
              obtain ⟨_, e4⟩ := HMO.out.uniq hm'
              subst e4
              rw [e]
              exact and_or_of HQ.out.2.2.2 (rulesG_lt HF.out.2.2.2.2)
            clear b0 b1 b2 HLN HBk HBy HNk HTk
            go_wp2_with fail
            refine HRU.out.mono ?_
            rintro e1 u3 ⟨rfl, hu3⟩
            subst hu3
            clear HRU
            go_wp2_with fail
            refine HEN.out.mono ?_
            rintro e1 u4 ⟨rfl, k4⟩
            have HB4 : Hid (Below w.heap.size w u4) := below_step HBv.out k4
            have HW4 : Hid (WkAt B1 u4 Wb (uni Ms) (uni Ms).rs.length g r (decide (0 < n))) := HWz.out.later k4
            have HN4 : Hid (NFB u4 A ⟨zS, za, zn, zc, zra, zrn, zrc⟩) := HNz.out.later k4
            clear k4 HEN HWz HNz HBv HBz
            by_cases hnl : n < line.size
            · have hnl' : (n : Int) < (line.size : Int) := by omega
              have hb256 : line[n].toNat < 256 := UInt8.toNat_lt _
              have HTK2 : Hid ((bts line).take (n + 1) = (bts line).take n ++ [line[n].toNat]) := bts_take line hnl
              have HY1 : Hid (Calls Tryz.prog 13 #[.pointer (some ⟨Wb, 0, none⟩), .int .u8 (line[n].toNat : Nat)] u4 _) := byte_any Wb line[n].toNat u4 HW4.out HF.out (HMG.out u4 HB4.out).tb (by have := HWB.out; omega) hb256 (by have := HSZ.out; omega) (by have := HSZ.out; omega) HQ.out.2.2.2 (HMO.out.lt HF.out)
              go_wp2_with fail
              refine HY1.out.mono ?_
              rintro e5 v5 ⟨rfl, hg5, g5, hcl5, hwk5⟩
              have HB5 : Hid (Below w.heap.size w v5) := HB4.out.grown hg5 HB4.out.size (fun k e => by cases e; have := HWB.out; omega)
              have HN5 : Hid (NFB v5 A ⟨zS, za, zn, zc, zra, zrn, zrc⟩) := (hg5.block A HN4.out.lt (fun e => by cases e; exact absurd (TyB.ne HN4.out.ty HW4.out.ty) (by decide))).trans HN4.out
              have HI5 : Hid (n + 1 ≤ line.size → ∃ g' r', Mom (uni Ms) ((bts line).take (n + 1)) g' r' ∧ WkAt B1 v5 Wb (uni Ms) (uni Ms).rs.length g' r' (decide (0 < n + 1)) ∧ r < 4294967296 ∧ ∃ q, r' = r ||| q) := fun _ => by
                refine ⟨g5, r ||| rulesG (uni Ms).rs g5, ?_, ?_, HQ.out.2.2.2, _, rfl⟩
                · rw [HTK2.out]; exact .byte _ _ _ _ _ HMO.out hcl5
                · rw [decide_eq_true (by omega)]; exact hwk5
              clear hg5 hcl5 hwk5 HY1 HW4 HN4 HB4
              go_wp2
              go_roundw
              case rel => exact ⟨n + 1, r, by go_num, rfl, by omega, HB5, HN5, HI5⟩
              case measure => simp [intOf]; omega
            · have hnl' : ¬ (n : Int) < (line.size : Int) := by omega
              have HI5 : Hid (n + 1 ≤ line.size → ∃ g' r', Mom (uni Ms) ((bts line).take (n + 1)) g' r' ∧ WkAt B1 u4 Wb (uni Ms) (uni Ms).rs.length g' r' (decide (0 < n + 1)) ∧ r < 4294967296 ∧ ∃ q, r' = r ||| q) := fun h => by omega
              go_wp2
              go_roundw
              case rel => exact ⟨n + 1, r, by go_num, rfl, by omega, HB4, HN4, HI5⟩
              case measure => simp [intOf]; omega
    · have hns' : ¬ (n : Int) ≤ (line.size : Int) := by omega
      go_wp2
      go_ret
      exact ⟨rfl, HBn.out⟩
end Go.Proofs.YtmjnobdlgbojoaaGreatDoor


namespace Go.Proofs.YtmjnobdlgbojoaaGreatDoor
open Go.RowKit
attribute [local go_sem ↓] Go.wp_at_zero Go.wp_at_succ
def RowY (w : World) (base : Nat) (V : Value) (l : List Nat) : Prop := w.ownsRow base 5 1 V l.length (l.map fun x => Value.int .u8 (x : Nat))
theorem infoY : (Tryz.prog.info? 5).map (fun i => (i.zero, i.size, i.bytes)) = some (some (.int .u8 0), 1, 1) := by kernel_rfl
theorem rowY_nil (w : World) (base : Nat) : RowY w base (.slice none 0 0) [] := World.ownsRow_nil w base 5 1
theorem RowY.later {w w' : World} {base : Nat} {V : Value} {l : List Nat} (h : RowY w base V l) (hb : Below w.heap.size w w') : RowY w' base V l := by
  refine ⟨h.1, ?_⟩
  rcases h.2 with h6 | ⟨g, cap, cur, hv, hB, hg, rest⟩
  · exact Or.inl h6
  · exact Or.inr ⟨g, cap, cur, hv, hB, (hb.block g (Array.getElem?_eq_some_iff.1 hg).1).trans hg, rest⟩
theorem RowY.own {w : World} {base : Nat} {V : Value} {l : List Nat} (h : RowY w base V l) : ∀ k, V.ownBlock = some k → base ≤ k := by
  rcases h.2 with ⟨rfl, _⟩ | ⟨g, cap, cur, rfl, hB, _⟩
  · intro k hk; cases hk
  · intro k hk; cases hk; exact hB
theorem RowY.form {w : World} {base : Nat} {V : Value} {l : List Nat} (h : RowY w base V l) : ∃ a c, V = .slice a l.length c ∧ (l = [] ∨ ∃ g, a = some ⟨g, 0, none⟩ ∧ ∀ k x, l[k]? = some x → w.cell? ⟨g, k, none⟩ = some (.int .u8 (x : Nat))) := by
  rcases h.2 with ⟨rfl, h0⟩ | ⟨g, cap, cur, rfl, hB, hg, h1, h2, h3, h4⟩
  · exact ⟨none, 0, by rw [h0], Or.inl (List.eq_nil_of_length_eq_zero h0)⟩
  · refine ⟨_, _, rfl, Or.inr ⟨g, rfl, fun k x hk => ?_⟩⟩
    have hl := (List.getElem?_eq_some_iff.1 hk).1
    have e : (l.map fun x => Value.int .u8 (x : Nat))[k]? = some (.int .u8 (x : Nat)) := by rw [List.getElem?_map, hk]; rfl
    rw [← h4, List.getElem?_take_of_lt (by omega), Array.getElem?_toList] at e
    simp [World.cell?, hg, e]
theorem wpList_append_byte {w : World} {ops : Array Oper} {rest : List Oper} {o : Oper} {a : Act} {Q : Exit → Act → World → Prop} (hgd : o.guard = none) (s y : Operand)
    (ho : o.op = .call { callee := .builtin .append, args := #[s, y], argTypes := #[69, 69] })
    (base : Nat) (V : Value) (l : List Nat) (hs : a.eval s = V) (hn : RowY w base V l) (ad : Addr) (cap : Nat) (x : Nat) (hy : a.eval y = .slice (some ad) 1 cap) (hc : w.cell? ad = some (.int .u8 (x : Nat))) (hl : l.length ≤ 2000000) (hb : base ≤ w.heap.size)
    (h : ∀ g cap' w', RowY w' base (.slice (some ⟨g, 0, none⟩) (l.length + 1) cap') (l ++ [x]) → w.grownBy w' V.ownBlock → wpList Tryz.prog ops Q rest (a.put o.dst (.slice (some ⟨g, 0, none⟩) (l.length + 1) cap')) w') : wpList Tryz.prog ops Q (o :: rest) a w := by
  refine wpList_plain hgd fun K hK => ?_
  obtain ⟨i0, hi, hz0, hz1, hz2⟩ := info_parts infoY
  obtain ⟨g, cap', w', hr, ho2, hg, hgg, hlt⟩ := run_append_lies (P := Tryz.prog) w 69 o.type base 5 i0 _ 1 1 Tryz.underlying69 hi hz0 hz1 hz2 rfl (by decide) V l.length _ hn ad 1 cap [.int .u8 (x : Nat)] rfl
    (fun j v hj => by
      cases j with
      | zero => simp at hj; subst hj; simpa [Addr.add] using hc
      | succ j => simp at hj) (fun v hv => by simp at hv; subst hv; rfl) (by decide) (by simp only [maxLen]; omega) (by omega) hb w.heap.size rfl
  unfold Oper.wp execOp
  simp only [ho, resolve, invoke, builtin, Sem.run_bind, Sem.run_pure, Result.andThen_ok, List.map_toArray, List.map_cons, List.map_nil, hs, hy, hr]
  refine hK _ _ (h g cap' w' ?_ hg)
  unfold RowY
  rw [List.length_append, List.map_append]
  exact ho2
theorem convY {w : World} {base : Nat} {a : Option Addr} {n c : Nat} {l : List Nat} (h : RowY w base (.slice a n c) l) : n = l.length ∧ (convert 69 9 (.slice a n c)).run Tryz.prog w = .ok (.string (strOfNums (l.map fun (x : Nat) => (x : Int)))) w := by
  obtain ⟨a', c', hv, hc⟩ := h.form
  obtain ⟨e1, e2, e3⟩ := Value.slice.inj hv
  subst e1 e2 e3
  refine ⟨rfl, ?_⟩
  rcases hc with rfl | ⟨g, rfl, hc⟩
  · cases a with
    | none => exact run_convert_bytes_nil w 69 5 Tryz.underlying69 Tryz.underlying5 0 c 9 Tryz.underlying9
    | some ad =>
      show (convert 69 9 (.slice (some ad) 0 c)).run Tryz.prog w = _
      rw [run_convert_bytes_string w 69 9 5 _ _ _ Tryz.underlying69 Tryz.underlying5 Tryz.underlying9]
      have hl : (loadCells ad 0).run Tryz.prog w = .ok (([] : List Int).map (Value.int .u8)).toArray w := run_loadCells_list (P := Tryz.prog) w ad [] (fun j v hj => by simp at hj)
      exact run_bytesToString w ad 0 c [] hl
  · refine run_convert_bytes_arg w 69 5 Tryz.underlying69 Tryz.underlying5 g 0 l.length c (l.map fun (x : Nat) => (x : Int)) (by simp) (fun k hk => ?_) 9 Tryz.underlying9
    have hk2 : k < l.length := by simpa using hk
    rw [Nat.zero_add, hc k _ (List.getElem?_eq_getElem hk2)]
    simp [hk2]
theorem strOf_size (l : List Nat) : (strOfNums (l.map fun (x : Nat) => (x : Int))).size = l.length := by
  unfold strOfNums
  simp [ByteArray.size]
set_option maxRecDepth 4000 in
set_option maxHeartbeats 4000000 in
theorem lshort_any (s : ByteArray) (w : World) (hs : s.size ≤ maxLen) : Calls Tryz.prog 9 #[.string s] w fun e w' => ∃ t : ByteArray, e = .returned (.string t) ∧ t.size ≤ 8 ∧ Below w.heap.size w w' := by
  unfold maxLen at hs
  go_enter Tryz.func9, Tryz.ntmps9
  go_wp2_with fail
  go_loopw [3, 4] (fun V q v => ∃ (k : Nat) (l : List Nat), q = .int .i64 (k : Nat) ∧ k ≤ s.size ∧ Hid (RowY v w.heap.size V l) ∧ Hid (Below w.heap.size w v) ∧ Hid (l.length ≤ 8)) (fun _ q _ => s.size - (intOf q).toNat)
  case atStart => exact ⟨0, [], rfl, Nat.zero_le _, rowY_nil _ _, Below.refl _ _, Nat.zero_le _⟩
  case round =>
    obtain ⟨k, l, rfl, hk, HRk, HBk, HLk⟩ := hrel
    obtain ⟨a, c, hV, _⟩ := HRk.out.form
    subst hV
    by_cases hlt : k < s.size
    · have hlt' : (k : Int) < (s.size : Int) := by omega
      by_cases h8 : l.length < 8
      · have h8' : (l.length : Int) < 8 := by omega
        obtain ⟨x, hx⟩ : ∃ x, (s[k]'hlt).toNat = x := ⟨_, rfl⟩
        have hx256 : x < 256 := by rw [← hx]; exact UInt8.toNat_lt _
        by_cases h10 : x = 10
        · have e10 : ((x : Int) != 10) = false := by simp [h10]
          have e11 : ((x : Int) == 10) = true := by simp [h10]
          clear h10
          go_wp2
          go_roundw
          case rel => exact ⟨k + 1, l, by go_num, by omega, HRk, HBk, HLk⟩
          case measure => simp [intOf]; omega
        · have e10 : ((x : Int) != 10) = true := by simp; omega
          have e11 : ((x : Int) == 10) = false := by simp; omega
          have kk : Below wr.heap.size wr (wr.alloc (.cells #[.int .u8 (x : Nat)] 5)) := (Below.refl _ _).alloc (Nat.le_refl _) _
          have HR1 : Hid (RowY (wr.alloc (.cells #[.int .u8 (x : Nat)] 5)) w.heap.size (.slice a l.length c) l) := HRk.out.later kk
          have HB1 : Hid (Below w.heap.size w (wr.alloc (.cells #[.int .u8 (x : Nat)] 5))) := HBk.out.trans (kk.mono HBk.out.size)
          have HC1 : Hid ((wr.alloc (.cells #[.int .u8 (x : Nat)] 5)).cell? ⟨wr.heap.size, 0, none⟩ = some (.int .u8 (x : Nat))) := by
            have hn := heap_alloc_new wr (.cells #[.int .u8 (x : Nat)] 5)
            show World.cell? _ _ = _
            unfold World.cell?
            rw [hn]
            rfl
          clear h10 kk HRk HBk
          go_wp2_with (at_builtin; go_must (refine wpList_append_byte rfl _ _ rfl w.heap.size (.slice a l.length c) l rfl HR1.out ⟨wr.heap.size, 0, none⟩ 1 x rfl HC1.out (by omega) HB1.out.size ?_; intro g cap' v2 hr2 hg2; have HR2 : Hid (RowY v2 w.heap.size (.slice (some ⟨g, 0, none⟩) (l.length + 1) cap') (l ++ [x])) := hr2; have HB2 : Hid (Below w.heap.size w v2) := HB1.out.grown hg2 HB1.out.size (fun k e => HR1.out.own k e); clear hr2 hg2))
          go_roundw
          case rel => exact ⟨k + 1, l ++ [x], by go_num, by omega, HR2, HB2, (by show _ ≤ _; simp; omega)⟩
          case measure => simp [intOf]; omega
      · have h8' : ¬ (l.length : Int) < 8 := by omega
        have h8d : decide ((l.length : Int) < 8) = false := decide_eq_false h8'
        obtain ⟨_, hcv⟩ := convY HRk.out
        have HE : Hid (∃ t : ByteArray, Ending.returned (.string (strOfNums (l.map fun (x : Nat) => (x : Int)))) = .returned (.string t) ∧ t.size ≤ 8 ∧ Below w.heap.size w wr) := ⟨_, rfl, by rw [strOf_size]; exact HLk.out, HBk.out⟩
        go_wp2
        go_ret
        exact HE.out
    · have hlt' : ¬ (k : Int) < (s.size : Int) := by omega
      have hltd : decide ((k : Int) < (s.size : Int)) = false := decide_eq_false hlt'
      obtain ⟨_, hcv⟩ := convY HRk.out
      have HE : Hid (∃ t : ByteArray, Ending.returned (.string (strOfNums (l.map fun (x : Nat) => (x : Int)))) = .returned (.string t) ∧ t.size ≤ 8 ∧ Below w.heap.size w wr) := ⟨_, rfl, by rw [strOf_size]; exact HLk.out, HBk.out⟩
      go_wp2
      go_ret
      exact HE.out
end Go.Proofs.YtmjnobdlgbojoaaGreatDoor
