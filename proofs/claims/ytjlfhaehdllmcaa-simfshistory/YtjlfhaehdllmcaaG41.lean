/- heronlaw14: SimfsHistory. -/
import Derived.Test.YtjlfhaehdllmcaaG40
import Derived.BigRegion
import Derived.Deep.RegionWith
namespace Go.Proofs.Ytjlfhaehdllmcaa
open Go.RowKit Go.Maps Sf
attribute [local go_sem ↓] Go.wp_at_zero Go.wp_at_succ

theorem below_drew {w u : World} (h : Hid (Below w.heap.size w u)) : Hid (Below w.heap.size w u.drew) := (h.out.trans (((Below.refl _ u).drew).mono h.out.size) : Below _ _ _)
theorem err_lab {d : Dk} {s : ByteArray} {q n : Nat} (hm : may s = true) (h : d.lab s = some (q, n)) (hn : n ≠ 0) : err d s = 0 ∧ Sf.ser d s = q ∧ num d s = n := by
  have h1 : num d s = n := by unfold num; rw [h]
  refine ⟨?_, by unfold Sf.ser; rw [h], h1⟩
  unfold err
  rw [hm, if_pos rfl, h1, if_neg hn]
theorem own_low5 {w : World} {base base' : Nat} {e : TypeId} {z : Nat} {V : Value} {n : Nat} {xs : List Value} (h : w.ownsRow base e z V n xs) (hb : base' ≤ base) : w.ownsRow base' e z V n xs := by
  refine ⟨h.1, ?_⟩
  rcases h.2 with x | ⟨g, cap, cur, e1, e2, r⟩
  · exact .inl x
  · exact .inr ⟨g, cap, cur, e1, by omega, r⟩
set_option maxRecDepth 8000 in
set_option maxHeartbeats 8000000 in
theorem hist_any {w : World} {a : Option Addr} {c : Nat} {ops : List Opr} (h : OpsAt w a ops) : Calls Try.prog 3 #[.slice a ops.length c] w fun e w' => e = .returned (.bool true) ∧ Below w.heap.size w w' := by
  have HO : Hid (OpsAt w a ops) := h
  have HLN : Hid (ops.length ≤ 17592186043904) := h.len
  obtain ⟨N, hN⟩ : ∃ N, ops.length = N := ⟨_, rfl⟩
  have HN : Hid (ops.length = N) := hN
  have hN2 : N ≤ 17592186043904 := by rw [← hN]; exact h.len
  rw [hN]
  have HF : Hid (Calls Try.prog 5 #[] w _) := fixed_any w
  clear h hN HLN
  go_enter Try.func3, Try.ntmps3
  go_wp2_with fail
  refine HF.out.mono ?_
  rintro e w0 ⟨rfl, k0⟩
  have HB0 : Hid (Below w.heap.size w w0) := k0
  have HNW : Hid (Calls Try.prog 6 #[] w0 _) := new_any w0
  clear k0 HF
  go_wp2_with fail
  refine HNW.out.mono ?_
  rintro e w1 ⟨B, P1, rfl, hd1, hlow, k1⟩
  have H0 : Hid (HsI w P1 B Sf.new 0 w1) := ⟨hd1, fun k hk => Nat.le_trans HB0.out.size (hlow k hk), below_two HB0.out k1⟩
  clear hd1 hlow k1 HNW
  go_wp2_with fail
  go_loopw [4, 5] (fun m i u => ∃ (j : Nat) (d : Dk) (P : Nat → Prop) (hi : Nat), m = .int .i64 (hi : Nat) ∧ i = .int .i64 (j : Nat) ∧ j ≤ N ∧ j ≤ 80 ∧ Hid (d.hi = hi ∧ HsI w P B d j u)) (fun _ i _ => 81 - (Go.RowKit.intOf i).toNat)
  case atStart => exact ⟨0, Sf.new, P1, 0, rfl, rfl, Nat.zero_le _, by omega, rfl, H0.out⟩
  case round =>
    obtain ⟨j, d, P, hi, rfl, rfl, hjN, hj80, HS⟩ := hrel
    clear H0
    by_cases hlt : j < N ∧ j < 80
    · obtain ⟨hl1, hl2⟩ := hlt
      have l1 : (j : Int) < (N : Int) := by omega
      have l2 : (j : Int) < 80 := by omega
      have hil : hi ≤ 80 := by have := HS.out.2.dk.wf.hi; have := HS.out.1; omega
      obtain ⟨o, ho⟩ : ∃ o, ops[j]? = some o := ⟨_, List.getElem?_eq_getElem (by rw [HN.out]; exact hl1)⟩
      have HG : Hid (OpGood w o) := HO.out.good o (List.mem_of_getElem? ho)
      obtain ⟨b, off, rfl, hcell⟩ : ∃ b off, a = some ⟨b, off, none⟩ ∧ ∀ k v, o.cells[k]? = some v → wr.cell? ⟨b, off + j * 11 + k, none⟩ = some v := by
        rcases HO.out.cells with x | ⟨b, off, e, x⟩
        · rw [x] at ho; cases ho
        · exact ⟨b, off, e, fun k v hv => cell_later HS.out.2.lo _ _ _ (x j o ho k v hv)⟩
      obtain ⟨kind, dd, oa, ob, os, tm, nn, mm, oo, zz, kv, keep⟩ := o
      obtain ⟨ka, kc, hkv, _⟩ := HG.out.kv
      simp only at hkv
      subst hkv
      obtain ⟨nk, hnk⟩ : ∃ nk, (ints keep).length = nk := ⟨_, rfl⟩
      rw [hnk] at HG hcell
      have f0 : wr.cell? ⟨b, off + j * 11, none⟩ = some (.int .i64 kind) := hcell 0 _ rfl
      have f1 : wr.cell? ⟨b, off + j * 11 + 1, none⟩ = some (.int .i64 dd) := hcell 1 _ rfl
      have f2 : wr.cell? ⟨b, off + j * 11 + 2, none⟩ = some (.string oa) := hcell 2 _ rfl
      have f3 : wr.cell? ⟨b, off + j * 11 + 3, none⟩ = some (.string ob) := hcell 3 _ rfl
      have f4 : wr.cell? ⟨b, off + j * 11 + 4, none⟩ = some (.string os) := hcell 4 _ rfl
      have f5 : wr.cell? ⟨b, off + j * 11 + 5, none⟩ = some (.int .i64 tm) := hcell 5 _ rfl
      have f6 : wr.cell? ⟨b, off + j * 11 + 6, none⟩ = some (.int .i64 nn) := hcell 6 _ rfl
      have f7 : wr.cell? ⟨b, off + j * 11 + 7, none⟩ = some (.int .i64 mm) := hcell 7 _ rfl
      have f8 : wr.cell? ⟨b, off + j * 11 + 8, none⟩ = some (.int .i64 oo) := hcell 8 _ rfl
      have f9 : wr.cell? ⟨b, off + j * 11 + 9, none⟩ = some (.int .i64 zz) := hcell 9 _ rfl
      have f10 : wr.cell? ⟨b, off + j * 11 + 10, none⟩ = some (.slice ka nk kc) := hcell 10 _ rfl
      clear hcell ho hnk
      obtain ⟨o, ho⟩ : ∃ o : Opr, (⟨kind, dd, oa, ob, os, tm, nn, mm, oo, zz, .slice ka nk kc, keep⟩ : Opr) = o := ⟨_, rfl⟩
      have HOE : Hid ((⟨kind, dd, oa, ob, os, tm, nn, mm, oo, zz, .slice ka nk kc, keep⟩ : Opr) = o) := ho
      obtain ⟨w2, hw2⟩ : ∃ w2, wr.alloc (.cells #[.int .i64 kind, .int .i64 dd, .string oa, .string ob, .string os, .int .i64 tm, .int .i64 nn, .int .i64 mm, .int .i64 oo, .int .i64 zz, .slice ka nk kc] 28) = w2 := ⟨_, rfl⟩
      have HW2 : Hid (wr.alloc (.cells #[.int .i64 kind, .int .i64 dd, .string oa, .string ob, .string os, .int .i64 tm, .int .i64 nn, .int .i64 mm, .int .i64 oo, .int .i64 zz, .slice ka nk kc] 28) = w2) := hw2
      obtain ⟨A, hA⟩ : ∃ A, wr.heap.size = A := ⟨_, rfl⟩
      have HA : Hid (wr.heap.size = A) := hA
      have HOP : Hid (OpAt w2 A o) := by rw [← hw2, ← hA, ← ho]; exact heap_alloc_new wr _
      have k2 : Below wr.heap.size wr w2 := by rw [← hw2]; exact (Below.refl _ _).alloc (Nat.le_refl _) _
      have HK2 : Hid (Below wr.heap.size wr w2) := k2
      rw [ho] at HG
      have HC : Hid (Calls Try.prog 7 #[.pointer (some ⟨B, 0, none⟩), .int .i64 ((hi : Int) + 1)] w2 (SeenPost d (hi + 1) w2)) := seen_any (HS.out.2.dk.later k2) (hi + 1) (by omega)
      clear hw2 hA k2 ho
      go_upto_region 9 with fail
      rw [HW2.out, HA.out]
      clear HW2 f0 f1 f2 f3 f4 f5 f6 f7 f8 f9 f10
      go_wp2_with fail
      refine HC.out.mono ?_
      rintro e w3 ⟨V7, rfl, hV7, k3⟩
      rw [← HS.out.1] at hV7
      have HV7 : Hid (w3.ownsRow A 40 5 V7 (d.hi + 1) (flatF (files d (d.hi + 1)))) := own_low5 hV7 (by rw [← HA.out]; exact HK2.out.size)
      have HK3 : Hid (Below wr.heap.size wr w3) := below_step HK2.out k3
      have HOP3 : Hid (OpAt w3 A o) := HOP.out.later k3
      obtain ⟨c0, c2, c3, c4, c5, c10⟩ := HOP3.out.cellsAt
      obtain ⟨c1, c6, c7, c8, c9⟩ := HOP3.out.cellsMore
      rw [← HOE.out] at c0 c1 c2 c3 c4 c5 c6 c7 c8 c9 c10
      simp only at c0 c1 c2 c3 c4 c5 c6 c7 c8 c9 c10
      clear hV7 k3 HC HOP
      obtain ⟨nm, hto⟩ : ∃ nm, (if kind = 3 then ob else oa) = nm := ⟨_, rfl⟩
      have HTO : Hid ((if kind = 3 then ob else oa) = nm ∧ nm.size ≤ maxLen) := ⟨hto, by rw [← hto]; have h1 := HG.out.ok.a; have h2 := HG.out.ok.b; rw [← HOE.out] at h1 h2; split; exact h2; exact h1⟩
      clear hto
      go_upto_if 42 with fail
      go_cut [8] from 20 to 194 (fun v wx => v = .string nm ∧ wx = w3)
      case first =>
        by_cases hk3 : kind = 3
        · have t3 : (kind == (3 : Int)) = true := by simp; omega
          have HT : Hid (ob = nm) := by have x := HTO.out.1; rw [if_pos hk3] at x; exact x
          subst hk3
          go_wp2_with fail
          go_meet
          case rel => exact ⟨by rw [HT.out], rfl⟩
        · have t3 : (kind == (3 : Int)) = false := by simp; omega
          have HT : Hid (oa = nm) := by have x := HTO.out.1; rw [if_neg hk3] at x; exact x
          clear hk3
          go_wp2_with fail
          go_meet
          case rel => exact ⟨by rw [HT.out], rfl⟩
      case rest =>
      obtain ⟨rfl, hwc⟩ := hcut
      rw [hwc]
      clear hwc c0 c1 c2 c3 c4 c5 c6 c7 c8 c9 c10
      have hwf := HS.out.2.dk.wf
      obtain ⟨n0, q0, g0, z0, hst, hq0, hn0, hst2⟩ := stat_form hwf (by omega) nm
      obtain ⟨be, hbe⟩ : ∃ be, err d nm = be := ⟨_, rfl⟩
      have HST : Hid (q0 ≤ 1000000 ∧ n0 ≤ 1000000 ∧ (err d nm = 0 → q0 = ser d nm ∧ n0 = num d nm) ∧ err d nm = be) := ⟨hq0, hn0, hst2, hbe⟩
      have HC : Hid (Calls Try.prog 8 #[.pointer (some ⟨B, 0, none⟩), .string nm] w3 (fun e w' => e = .returned (.tuple #[.agg #[.int .i64 (n0 : Nat), .int .i64 (q0 : Nat), .int .i64 (g0 : Nat), .int .i64 (z0 : Nat)], .int .i64 (be : Nat)]) ∧ Below w3.heap.size w3 w')) := (stat_any (HS.out.2.dk.later HK3.out) nm HTO.out.2).mono (fun e w' x => by rw [hst, hbe] at x; exact x)
      clear hwf hst hq0 hn0 hst2 hbe
      go_wp2_with fail
      refine HC.out.mono ?_
      rintro e w4 ⟨rfl, k4⟩
      obtain ⟨w5, hw5⟩ : ∃ w5, w4.alloc (.cells #[.int .i64 (n0 : Nat), .int .i64 (q0 : Nat), .int .i64 (g0 : Nat), .int .i64 (z0 : Nat)] 32) = w5 := ⟨_, rfl⟩
      have HW5 : Hid (w4.alloc (.cells #[.int .i64 (n0 : Nat), .int .i64 (q0 : Nat), .int .i64 (g0 : Nat), .int .i64 (z0 : Nat)] 32) = w5) := hw5
      obtain ⟨A3, hA3⟩ : ∃ A3, w4.heap.size = A3 := ⟨_, rfl⟩
      have HA3 : Hid (w4.heap.size = A3) := hA3
      have hs5 : StatB w5 A3 (.int .i64 (n0 : Nat)) (.int .i64 (q0 : Nat)) (.int .i64 (g0 : Nat)) (.int .i64 (z0 : Nat)) := by rw [← hw5, ← hA3]; exact heap_alloc_new w4 _
      have k5 : Below w3.heap.size w3 w5 := below_step k4 (by rw [← hw5]; exact (Below.refl _ _).alloc (Nat.le_refl _) _)
      have HK5 : Hid (Below wr.heap.size wr w5) := below_step HK3.out k5
      have HM5 : Hid (HsM A o V7 d A3 n0 q0 g0 z0 w5) := ⟨HOP3.out.later k5, ownsRow_keep HV7.out (fun b _ _ hlt => k5.block b hlt), hs5, by have h1 := HOP3.out.lt; have h2 := k4.size; omega⟩
      obtain ⟨c0, c2, c3, c4, c5, c10⟩ := HM5.out.op.cellsAt
      obtain ⟨c1, c6, c7, c8, c9⟩ := HM5.out.op.cellsMore
      rw [← HOE.out] at c0 c1 c2 c3 c4 c5 c6 c7 c8 c9 c10
      simp only at c0 c1 c2 c3 c4 c5 c6 c7 c8 c9 c10
      have HC : Hid (Calls Try.prog 9 #[.pointer (some ⟨B, 0, none⟩), .agg #[.int .i64 kind, .int .i64 dd, .string oa, .string ob, .string os, .int .i64 tm, .int .i64 nn, .int .i64 mm, .int .i64 oo, .int .i64 zz, .slice ka nk kc]] w5 (DoesPost P w5 B d j o)) := by
        have h1 := does_any (HS.out.2.dk.later HK5.out) o HG.out.ok (lat_off HG.out.kv (below_two HS.out.2.lo HK5.out) HS.out.2.hp) HG.out.kl
        have e1 : o.cells = #[.int .i64 kind, .int .i64 dd, .string oa, .string ob, .string os, .int .i64 tm, .int .i64 nn, .int .i64 mm, .int .i64 oo, .int .i64 zz, .slice ka nk kc] := by rw [← HOE.out]; rfl
        rw [e1] at h1
        exact h1
      clear k4 hw5 hA3 hs5 k5 HV7 HOP3
      go_upto_region 14 with fail
      rw [HW5.out, HA3.out]
      clear HW5
      go_wp2_with fail
      refine HC.out.mono ?_
      rintro e w6 ⟨l, rfl, hdk⟩
      have hlaw := law_any HS.out.2.dk.wf o l
      have hwf := doR_wf HS.out.2.dk.wf o l
      obtain ⟨⟨d', ee, arr⟩, hr⟩ : ∃ r, doR d o l = r := ⟨_, rfl⟩
      rw [hr] at hdk hlaw hwf ⊢
      simp only at hdk hwf ⊢
      have HL : Hid (Law d o (d', ee, arr)) := hlaw
      have HS6 : Hid (HsI w (More P w5 w6) B d' (j + 1) w6) := HS.out.2.next HK5.out hdk hwf (by omega)
      have HM6 : Hid (HsM A o V7 d A3 n0 q0 g0 z0 w6) := HM5.out.does hdk.2 (fun k hk => by rw [← HA.out]; exact HS.out.2.dk.m.low k hk)
      obtain ⟨P6, hP6⟩ : ∃ P6, More P w5 w6 = P6 := ⟨_, rfl⟩
      rw [hP6] at HS6
      obtain ⟨hi', hhi'⟩ : ∃ x, d'.hi = x := ⟨_, rfl⟩
      have hil' : hi' ≤ 81 := by have := hwf.hi; omega
      have HH : Hid (d'.hi = hi' ∧ d.hi = hi ∧ hi' = if kind = 0 ∧ ee = 0 then hi + 1 else hi) := ⟨hhi', HS.out.1, by have x := hlaw.hi; rw [← HOE.out, HS.out.1] at x; rw [← hhi']; exact x⟩
      have c0 : w6.cell? ⟨A, 0, none⟩ = some (.int .i64 kind) := by have x := HM6.out.op.cellsAt.1; rw [← HOE.out] at x; exact x
      clear hdk hlaw hwf hr hP6 hhi' HM5 HC HK5 c1 c2 c3 c4 c5 c6 c7 c8 c9 c10
      go_upto_region 15 with fail
      go_cut [63] from 20 to 194 (fun v wx => v = .bool (decide (kind = 0 ∧ ee = 0)) ∧ wx = w6)
      case first =>
        by_cases hk0 : kind = 0
        · have t0 : (kind == (0 : Int)) = true := by simp; omega
          by_cases he : ee = 0
          · have HT : Hid (decide (kind = 0 ∧ ee = 0) = true) := decide_eq_true ⟨hk0, he⟩
            have t1 : ((ee : Int) == (0 : Int)) = true := by simp; omega
            clear hk0 he
            go_wp2_with fail
            go_meet
            case rel => exact ⟨by rw [HT.out], rfl⟩
          · have HT : Hid (decide (kind = 0 ∧ ee = 0) = false) := decide_eq_false (fun x => he x.2)
            have t1 : ((ee : Int) == (0 : Int)) = false := by simp; omega
            clear hk0 he
            go_wp2_with fail
            go_meet
            case rel => exact ⟨by rw [HT.out], rfl⟩
        · have t0 : (kind == (0 : Int)) = false := by simp; omega
          have HT : Hid (decide (kind = 0 ∧ ee = 0) = false) := decide_eq_false (fun x => hk0 x.1)
          clear hk0
          go_wp2_with fail
          go_meet
          case rel => exact ⟨by rw [HT.out], rfl⟩
      case rest =>
      obtain ⟨rfl, hwc⟩ := hcut
      rw [hwc]
      clear hwc
      obtain ⟨cr, hcr⟩ : ∃ cr, decide (kind = 0 ∧ ee = 0) = cr := ⟨_, rfl⟩
      have HCR : Hid (decide (kind = 0 ∧ ee = 0) = cr) := hcr
      rw [hcr]
      clear hcr
      go_upto_if 63 with fail
      go_cut [4] from 20 to 194 (fun v wx => v = .int .i64 (hi' : Nat) ∧ wx = w6)
      case first =>
        cases cr with
        | true =>
          have HT : Hid (hi' = hi + 1) := by have x := HH.out.2.2; rw [if_pos (of_decide_eq_true HCR.out)] at x; exact x
          go_wp2_with fail
          go_meet
          case rel => exact ⟨by rw [HT.out]; rfl, rfl⟩
        | false =>
          have HT : Hid (hi' = hi) := by have x := HH.out.2.2; rw [if_neg (of_decide_eq_false HCR.out)] at x; exact x
          go_wp2_with fail
          go_meet
          case rel => exact ⟨by rw [HT.out], rfl⟩
      case rest =>
      obtain ⟨rfl, hwc⟩ := hcut
      rw [hwc]
      clear hwc
      have HC : Hid (Calls Try.prog 7 #[.pointer (some ⟨B, 0, none⟩), .int .i64 ((hi' : Int) + 1)] w6 (SeenPost d' (hi' + 1) w6)) := seen_any HS6.out.dk (hi' + 1) (by omega)
      go_wp2_with fail
      refine HC.out.mono ?_
      rintro e w7 ⟨V13, rfl, hV13, k7⟩
      obtain ⟨g7, c7, hv7, _, _⟩ := files_form HM6.out.was
      rw [HH.out.2.1] at hv7
      obtain ⟨g13, c13, rfl, _, _⟩ := files_form hV13
      subst hv7
      have HM : Hid (HsI w P6 B d' (j + 1) w7 ∧ HsM A o (.slice (some ⟨g7, 0, none⟩) (hi + 1) c7) d A3 n0 q0 g0 z0 w7 ∧ w7.ownsRow w6.heap.size 40 5 (.slice (some ⟨g13, 0, none⟩) (hi' + 1) c13) (hi' + 1) (flatF (files d' (hi' + 1)))) := ⟨HS6.out.later k7, HM6.out.later k7, hV13⟩
      have HR7 : Hid (Below w7.heap.size w7 w7) := Below.refl _ _
      clear hV13 k7 HC HS6 HM6 c0
      go_wp2_with fail
      go_loopw [14] (fun v u => ∃ n : Nat, v = .int .i64 (n : Nat) ∧ n ≤ hi + 1 ∧ Hid (Below w7.heap.size w7 u)) (fun v _ => hi + 2 - (Go.RowKit.intOf v).toNat)
      case atStart => exact ⟨0, rfl, Nat.zero_le _, HR7⟩
      case round =>
        obtain ⟨n, rfl, hn, HB⟩ := hrel
        clear HR7
        by_cases hlt : n < hi + 1
        · have l1 : (n : Int) < (hi : Int) + 1 := by omega
          have hle : hi ≤ hi' := by rw [HH.out.2.2]; split <;> omega
          obtain ⟨⟨i1, s1, g1, z1, y1⟩, hfa⟩ : ∃ fa, fileOf d (n + 1) = fa := ⟨_, rfl⟩
          obtain ⟨⟨i2, s2, g2, z2, y2⟩, hfb⟩ : ∃ fb, fileOf d' (n + 1) = fb := ⟨_, rfl⟩
          have HFA : Hid (fileOf d (n + 1) = ⟨i1, s1, g1, z1, y1⟩) := hfa
          have HFB : Hid (fileOf d' (n + 1) = ⟨i2, s2, g2, z2, y2⟩) := hfb
          have HCA : Hid (∀ k v, (Fl.cells ⟨i1, s1, g1, z1, y1⟩)[k]? = some v → w7.cell? ⟨g7, n * 5 + k, none⟩ = some v) := by
            have x := HM.out.2.1.was
            rw [HH.out.2.1] at x
            rw [← hfa]
            exact files_cells x hlt
          have HCB : Hid (∀ k v, (Fl.cells ⟨i2, s2, g2, z2, y2⟩)[k]? = some v → w7.cell? ⟨g13, n * 5 + k, none⟩ = some v) := by
            rw [← hfb]
            exact files_cells HM.out.2.2 (by omega)
          have HCK : Hid (w7.cell? ⟨A, 0, none⟩ = some (.int .i64 kind)) := by have x := HM.out.2.1.op.cellsAt.1; rw [← HOE.out] at x; exact x
          have a0 : wr.cell? ⟨g7, n * 5, none⟩ = some (.int .i64 (i1 : Nat)) := cell_later HB.out _ _ _ (HCA.out 0 _ rfl)
          have a1 : wr.cell? ⟨g7, n * 5 + 1, none⟩ = some (.int .i64 (s1 : Nat)) := cell_later HB.out _ _ _ (HCA.out 1 _ rfl)
          have a2 : wr.cell? ⟨g7, n * 5 + 2, none⟩ = some (.int .i64 (g1 : Nat)) := cell_later HB.out _ _ _ (HCA.out 2 _ rfl)
          have a3 : wr.cell? ⟨g7, n * 5 + 3, none⟩ = some (.int .i64 (z1 : Nat)) := cell_later HB.out _ _ _ (HCA.out 3 _ rfl)
          have a4 : wr.cell? ⟨g7, n * 5 + 4, none⟩ = some (.string y1) := cell_later HB.out _ _ _ (HCA.out 4 _ rfl)
          have b0 : wr.cell? ⟨g13, n * 5, none⟩ = some (.int .i64 (i2 : Nat)) := cell_later HB.out _ _ _ (HCB.out 0 _ rfl)
          have b1 : wr.cell? ⟨g13, n * 5 + 1, none⟩ = some (.int .i64 (s2 : Nat)) := cell_later HB.out _ _ _ (HCB.out 1 _ rfl)
          have b2 : wr.cell? ⟨g13, n * 5 + 2, none⟩ = some (.int .i64 (g2 : Nat)) := cell_later HB.out _ _ _ (HCB.out 2 _ rfl)
          have b3 : wr.cell? ⟨g13, n * 5 + 3, none⟩ = some (.int .i64 (z2 : Nat)) := cell_later HB.out _ _ _ (HCB.out 3 _ rfl)
          have b4 : wr.cell? ⟨g13, n * 5 + 4, none⟩ = some (.string y2) := cell_later HB.out _ _ _ (HCB.out 4 _ rfl)
          have ck : wr.cell? ⟨A, 0, none⟩ = some (.int .i64 kind) := cell_later HB.out _ _ _ HCK.out
          have l2 : (n : Int) < (hi' : Int) + 1 := by omega
          clear hfa hfb
          go_upto_region 21 with fail
          go_cut [102] from 70 to 115 (fun v wx => v = .bool false ∧ Hid (Below w7.heap.size w7 wx))
          case first =>
            by_cases hm : n < hi'
            · have l3 : (n : Int) < (hi' : Int) := by omega
              by_cases hk : kind = 0
              · have t0 : (kind == (0 : Int)) = true := by simp; omega
                by_cases hx : n + 1 = hi'
                · have t1 : ((n : Int) == (hi' : Int) - 1) = true := by simp; omega
                  go_region
                  go_wp2_with fail
                  go_meet
                  case rel => exact ⟨rfl, below_drew HB⟩
                · have t1 : ((n : Int) == (hi' : Int) - 1) = false := by simp; omega
                  have HN1 : Hid (n + 1 ≤ d.hi) := by have x := HH.out; have y := x.2.2; by_cases q : kind = 0 ∧ ee = 0 <;> simp only [q, and_self, if_true, if_false] at y <;> show n + 1 ≤ d.hi <;> omega
                  have HG2 : Hid (∀ u, Calls Try.prog 10 #[.agg #[.int .i64 (i1 : Nat), .int .i64 (s1 : Nat), .int .i64 (g1 : Nat), .int .i64 (z1 : Nat), .string y1], .agg #[.int .i64 (i2 : Nat), .int .i64 (s2 : Nat), .int .i64 (g2 : Nat), .int .i64 (z2 : Nat), .string y2]] u fun e u' => e = .returned (.bool true) ∧ Below u.heap.size u u') := fun u => by
                    have h1 : n + 1 ≤ d.hi := HN1.out
                    have h2 := files_grow HL.out h1
                    have h3 := fileOf_ok (n := n + 1) HS.out.2.dk.wf (by omega)
                    have h4 := fileOf_ok (n := n + 1) HM.out.1.dk.wf (by omega)
                    rw [HFA.out, HFB.out] at h2
                    rw [HFA.out] at h3
                    rw [HFB.out] at h4
                    exact grown_true h2 h3 h4 u
                  as_aux_lemma =>
                    refine reg21a (new := #[.slice (some ⟨b, off, none⟩) N c, undef, u2, .pointer (some ⟨B, 0, none⟩), .int .i64 (hi' : Nat), .int .i64 (j : Nat), .pointer (some ⟨A, 0, none⟩), .slice (some ⟨g7, 0, none⟩) (hi + 1) c7, .string nm, .pointer (some ⟨A3, 0, none⟩), .int .i64 (be : Nat), .int .i64 (ee : Nat), .bool arr, .slice (some ⟨g13, 0, none⟩) (hi' + 1) c13, .int .i64 (n : Nat), u15, u16, .bool true, .bool false, .pointer (some ⟨B, 0, none⟩), u20, u21, u22, u23, u24, u25, u26, u27, u28, u29, u30, u31, u32, u33, u34, u35, u36, u37, u38, u39, u40, u41, u42, u43, u44, u45, u46, u47, u48, u49, u50, u51, u52, u53, u54, u55, u56, u57, u58, u59, u60, u61, u62, u63, u64, u65, .pointer (some ⟨B, 0, none⟩), .int .i64 (hi' : Nat), .int .i64 ((hi' : Int) + 1), .slice (some ⟨g13, 0, none⟩) (hi' + 1) c13, .int .i64 (n : Nat), .slice (some ⟨g7, 0, none⟩) (hi + 1) c7, .int .i64 ((hi : Int) + 1), .bool true, u74, u75, .int .i64 (n : Nat), .int .i64 (hi' : Nat), .bool true, .bool true, .pointer (some ⟨A, 0, none⟩), .int .i64 kind, .bool true, .bool true, .int .i64 (n : Nat), .int .i64 (hi' : Nat), .int .i64 ((hi' : Int) - 1), .bool false, .bool false, .bool true, .bool true, .bool true, .slice (some ⟨g7, 0, none⟩) (hi + 1) c7, .int .i64 (n : Nat), .pointer (some ⟨g7, n * 5, none⟩), .agg #[.int .i64 (i1 : Nat), .int .i64 (s1 : Nat), .int .i64 (g1 : Nat), .int .i64 (z1 : Nat), .string y1], .slice (some ⟨g13, 0, none⟩) (hi' + 1) c13, .int .i64 (n : Nat), .pointer (some ⟨g13, n * 5, none⟩), .agg #[.int .i64 (i2 : Nat), .int .i64 (s2 : Nat), .int .i64 (g2 : Nat), .int .i64 (z2 : Nat), .string y2], .bool true, .bool false, .bool false, u103, u104, u105, u106, u107, u108, u109, u110, u111, u112, u113, u114, u115, u116, u117, u118, u119, u120, u121, u122, u123, u124, u125, u126, u127, u128, u129, u130, u131, u132, u133, u134, u135, u136, u137, u138, u139, u140, u141, u142, u143, u144, u145, u146, u147, u148, u149, u150, u151, u152, u153, u154, u155, u156, u157, u158, u159, u160, u161, u162, u163, u164, u165, u166, u167, u168, u169, u170, u171, u172, u173, u174, u175, u176, u177, u178, u179, u180, u181, u182, u183, u184, u185, u186, u187, u188, u189, u190, u191, u192, u193, u194]) n hi' hi A g7 c7 g13 c13 kind i1 s1 g1 z1 i2 s2 g2 z2 y1 y2 (by kernel_rfl) rfl rfl rfl rfl rfl rfl l1 l2 l3 hil' t0 t1 ck a0 a1 a2 a3 a4 b0 b1 b2 b3 b4 HG2.out (by kernel_rfl) ?_
                    intro w9 k9
                    have HB9 : Hid (Below w7.heap.size w7 w9) := below_two HB.out k9
                    clear k9
                    dsimp only
                    go_wp2_with fail
                    go_meet
                    case rel => exact ⟨rfl, HB9⟩
              · have t0 : (kind == (0 : Int)) = false := by simp; omega
                have HN1 : Hid (n + 1 ≤ d.hi) := by have x := HH.out; have y := x.2.2; rw [if_neg (fun q => hk q.1)] at y; show n + 1 ≤ d.hi; omega
                have HG2 : Hid (∀ u, Calls Try.prog 10 #[.agg #[.int .i64 (i1 : Nat), .int .i64 (s1 : Nat), .int .i64 (g1 : Nat), .int .i64 (z1 : Nat), .string y1], .agg #[.int .i64 (i2 : Nat), .int .i64 (s2 : Nat), .int .i64 (g2 : Nat), .int .i64 (z2 : Nat), .string y2]] u fun e u' => e = .returned (.bool true) ∧ Below u.heap.size u u') := fun u => by
                  have h1 : n + 1 ≤ d.hi := HN1.out
                  have h2 := files_grow HL.out h1
                  have h3 := fileOf_ok (n := n + 1) HS.out.2.dk.wf (by omega)
                  have h4 := fileOf_ok (n := n + 1) HM.out.1.dk.wf (by omega)
                  rw [HFA.out, HFB.out] at h2
                  rw [HFA.out] at h3
                  rw [HFB.out] at h4
                  exact grown_true h2 h3 h4 u
                as_aux_lemma =>
                  refine reg21b (new := #[.slice (some ⟨b, off, none⟩) N c, undef, u2, .pointer (some ⟨B, 0, none⟩), .int .i64 (hi' : Nat), .int .i64 (j : Nat), .pointer (some ⟨A, 0, none⟩), .slice (some ⟨g7, 0, none⟩) (hi + 1) c7, .string nm, .pointer (some ⟨A3, 0, none⟩), .int .i64 (be : Nat), .int .i64 (ee : Nat), .bool arr, .slice (some ⟨g13, 0, none⟩) (hi' + 1) c13, .int .i64 (n : Nat), u15, u16, .bool true, .bool false, .pointer (some ⟨B, 0, none⟩), u20, u21, u22, u23, u24, u25, u26, u27, u28, u29, u30, u31, u32, u33, u34, u35, u36, u37, u38, u39, u40, u41, u42, u43, u44, u45, u46, u47, u48, u49, u50, u51, u52, u53, u54, u55, u56, u57, u58, u59, u60, u61, u62, u63, u64, u65, .pointer (some ⟨B, 0, none⟩), .int .i64 (hi' : Nat), .int .i64 ((hi' : Int) + 1), .slice (some ⟨g13, 0, none⟩) (hi' + 1) c13, .int .i64 (n : Nat), .slice (some ⟨g7, 0, none⟩) (hi + 1) c7, .int .i64 ((hi : Int) + 1), .bool true, u74, u75, .int .i64 (n : Nat), .int .i64 (hi' : Nat), .bool true, .bool true, .pointer (some ⟨A, 0, none⟩), .int .i64 kind, .bool false, .bool false, undef, undef, undef, undef, .bool false, .bool true, .bool true, .bool true, .slice (some ⟨g7, 0, none⟩) (hi + 1) c7, .int .i64 (n : Nat), .pointer (some ⟨g7, n * 5, none⟩), .agg #[.int .i64 (i1 : Nat), .int .i64 (s1 : Nat), .int .i64 (g1 : Nat), .int .i64 (z1 : Nat), .string y1], .slice (some ⟨g13, 0, none⟩) (hi' + 1) c13, .int .i64 (n : Nat), .pointer (some ⟨g13, n * 5, none⟩), .agg #[.int .i64 (i2 : Nat), .int .i64 (s2 : Nat), .int .i64 (g2 : Nat), .int .i64 (z2 : Nat), .string y2], .bool true, .bool false, .bool false, u103, u104, u105, u106, u107, u108, u109, u110, u111, u112, u113, u114, u115, u116, u117, u118, u119, u120, u121, u122, u123, u124, u125, u126, u127, u128, u129, u130, u131, u132, u133, u134, u135, u136, u137, u138, u139, u140, u141, u142, u143, u144, u145, u146, u147, u148, u149, u150, u151, u152, u153, u154, u155, u156, u157, u158, u159, u160, u161, u162, u163, u164, u165, u166, u167, u168, u169, u170, u171, u172, u173, u174, u175, u176, u177, u178, u179, u180, u181, u182, u183, u184, u185, u186, u187, u188, u189, u190, u191, u192, u193, u194]) n hi' hi A g7 c7 g13 c13 kind i1 s1 g1 z1 i2 s2 g2 z2 y1 y2 (by kernel_rfl) rfl rfl rfl rfl rfl rfl l1 l2 l3 hil' t0 ck a0 a1 a2 a3 a4 b0 b1 b2 b3 b4 HG2.out (by kernel_rfl) ?_
                  intro w9 k9
                  have HB9 : Hid (Below w7.heap.size w7 w9) := below_two HB.out k9
                  clear k9
                  dsimp only
                  go_wp2_with fail
                  go_meet
                  case rel => exact ⟨rfl, HB9⟩
            · have l3 : ¬ (n : Int) < (hi' : Int) := by omega
              go_region
              go_wp2_with fail
              go_meet
              case rel => exact ⟨rfl, below_drew HB⟩
          case rest =>
          obtain ⟨rfl, HBc⟩ := hcut
          clear a0 a1 a2 a3 a4 b0 b1 b2 b3 b4 ck HB
          have a0 : wc.cell? ⟨g7, n * 5, none⟩ = some (.int .i64 (i1 : Nat)) := cell_later HBc.out _ _ _ (HCA.out 0 _ rfl)
          have a1 : wc.cell? ⟨g7, n * 5 + 1, none⟩ = some (.int .i64 (s1 : Nat)) := cell_later HBc.out _ _ _ (HCA.out 1 _ rfl)
          have a2 : wc.cell? ⟨g7, n * 5 + 2, none⟩ = some (.int .i64 (g1 : Nat)) := cell_later HBc.out _ _ _ (HCA.out 2 _ rfl)
          have a3 : wc.cell? ⟨g7, n * 5 + 3, none⟩ = some (.int .i64 (z1 : Nat)) := cell_later HBc.out _ _ _ (HCA.out 3 _ rfl)
          have a4 : wc.cell? ⟨g7, n * 5 + 4, none⟩ = some (.string y1) := cell_later HBc.out _ _ _ (HCA.out 4 _ rfl)
          have b0 : wc.cell? ⟨g13, n * 5, none⟩ = some (.int .i64 (i2 : Nat)) := cell_later HBc.out _ _ _ (HCB.out 0 _ rfl)
          have b1 : wc.cell? ⟨g13, n * 5 + 1, none⟩ = some (.int .i64 (s2 : Nat)) := cell_later HBc.out _ _ _ (HCB.out 1 _ rfl)
          have b2 : wc.cell? ⟨g13, n * 5 + 2, none⟩ = some (.int .i64 (g2 : Nat)) := cell_later HBc.out _ _ _ (HCB.out 2 _ rfl)
          have b3 : wc.cell? ⟨g13, n * 5 + 3, none⟩ = some (.int .i64 (z2 : Nat)) := cell_later HBc.out _ _ _ (HCB.out 3 _ rfl)
          have b4 : wc.cell? ⟨g13, n * 5 + 4, none⟩ = some (.string y2) := cell_later HBc.out _ _ _ (HCB.out 4 _ rfl)
          go_upto_region 23 with fail
          go_cut [115] from 70 to 115 (fun v wx => v = .bool false ∧ Hid (Below w7.heap.size w7 wx))
          case first =>
            by_cases he : ee = 0
            · have t1 : ((ee : Int) != (0 : Int)) = false := by simp; omega
              clear he
              go_region
              go_wp2_with fail
              go_meet
              case rel => exact ⟨rfl, below_drew HBc⟩
            · have t1 : ((ee : Int) != (0 : Int)) = true := by simp; omega
              have hEQ : (⟨i1, s1, g1, z1, y1⟩ : Fl) = ⟨i2, s2, g2, z2, y2⟩ := by rw [← HFA.out, ← HFB.out, show d' = d from HL.out.none he]
              injection hEQ with e1 e2 e3 e4 e5
              subst e1 e2 e3 e4 e5
              clear he
              go_region
              go_wp2_with fail
              go_meet
              case rel => exact ⟨rfl, below_drew HBc⟩
          case rest =>
          obtain ⟨rfl, HBd⟩ := hcut
          clear a0 a1 a2 a3 a4 b0 b1 b2 b3 b4
          go_wp2_with fail
          go_roundw
          case rel => exact ⟨n + 1, by go_num, by omega, HBd⟩
          case measure => simp [Go.RowKit.intOf]; omega
        · have l1 : ¬ (n : Int) < (hi : Int) + 1 := by omega
          have ck : wr.cell? ⟨A, 0, none⟩ = some (.int .i64 kind) := cell_later HB.out _ _ _ (by have x := HM.out.2.1.op.cellsAt.1; rw [← HOE.out] at x; exact x)
          have HCB : Hid (∀ n, n < hi' + 1 → ∀ k v, (fileOf d' (n + 1)).cells[k]? = some v → w7.cell? ⟨g13, n * 5 + k, none⟩ = some v) := fun n hn => files_cells HM.out.2.2 hn
          have b0 : wr.cell? ⟨g13, hi' * 5, none⟩ = some (.int .i64 0) := cell_later HB.out _ _ _ (HCB.out hi' (by omega) 0 _ (by rw [fileOf_above HM.out.1.dk.wf (by rw [HH.out.1]; omega)]; rfl))
          obtain ⟨n9, q9, g9, z9, hst9, hq9, hn9, hst92⟩ := stat_form HM.out.1.dk.wf (by omega) nm
          obtain ⟨af, haf⟩ : ∃ af, err d' nm = af := ⟨_, rfl⟩
          have HCS : Hid (Calls Try.prog 8 #[.pointer (some ⟨B, 0, none⟩), .string nm] wr (fun e w' => e = .returned (.tuple #[.agg #[.int .i64 (n9 : Nat), .int .i64 (q9 : Nat), .int .i64 (g9 : Nat), .int .i64 (z9 : Nat)], .int .i64 (af : Nat)]) ∧ Below wr.heap.size wr w')) := (stat_any (HM.out.1.dk.later HB.out) nm HTO.out.2).mono (fun e w' x => by rw [hst9, haf] at x; exact x)
          have HST9 : Hid ((err d' nm = 0 → q9 = Sf.ser d' nm ∧ n9 = num d' nm) ∧ err d' nm = af) := ⟨hst92, haf⟩
          have hq0 := HST.out.1
          have hjb : j < N ∧ j < 80 := ⟨hl1, hl2⟩
          clear hst9 hst92 haf
          cases arr with
          | true =>
            obtain ⟨hee, hkk⟩ := HL.out.kinds rfl
            have hkk : kind = 0 ∨ kind = 3 := by rw [← HOE.out] at hkk; exact hkk
            rcases hkk with hk | hk
            · have hfr := HL.out.fresh (by rw [← HOE.out]; exact hk) hee
              rw [← HOE.out] at hfr
              simp only at hfr
              obtain ⟨fr1, fr2, _, fr4⟩ := hfr
              have hnm : oa = nm := by have x := HTO.out.1; rw [if_neg (by omega)] at x; exact x
              rw [hnm] at fr1 fr2 fr4
              obtain ⟨x1, x2, x3⟩ := err_lab (err_141 fr4).1 fr1 (by omega)
              have hh : hi' = hi + 1 := by have x := HH.out.2.2; rw [if_pos ⟨hk, hee⟩] at x; exact x
              have haf : af = 0 := HST9.out.2.symm.trans x1
              have hn9' : n9 = hi + 1 := by rw [(HST9.out.1 x1).2, x3, HH.out.2.1]
              have hbe : be = 141 := HST.out.2.2.2.symm.trans fr4
              have b3 : wr.cell? ⟨g13, hi * 5 + 3, none⟩ = some (.int .i64 0) := cell_later HB.out _ _ _ (HCB.out hi (by omega) 3 _ (by unfold fileOf; rw [show hi + 1 = d.hi + 1 by rw [HH.out.2.1], fr2]; rfl))
              subst hk
              have t6 : ((n9 : Int) != (hi : Int) + 1) = false := by simp; omega
              subst haf hbe hh
              clear fr1 fr2 fr4 hnm x1 x2 x3 hee hn9'
              as_aux_lemma =>
                go_wp2_with fail
                refine HCS.out.mono ?_
                rintro e w8 ⟨rfl, k8⟩
                obtain ⟨w9, hw9⟩ : ∃ w9, w8.alloc (.cells #[.int .i64 (n9 : Nat), .int .i64 (q9 : Nat), .int .i64 (g9 : Nat), .int .i64 (z9 : Nat)] 32) = w9 := ⟨_, rfl⟩
                have HW9 : Hid (w8.alloc (.cells #[.int .i64 (n9 : Nat), .int .i64 (q9 : Nat), .int .i64 (g9 : Nat), .int .i64 (z9 : Nat)] 32) = w9) := hw9
                obtain ⟨A9, hA9⟩ : ∃ A9, w8.heap.size = A9 := ⟨_, rfl⟩
                have HA9 : Hid (w8.heap.size = A9) := hA9
                have hs9 : StatB w9 A9 (.int .i64 (n9 : Nat)) (.int .i64 (q9 : Nat)) (.int .i64 (g9 : Nat)) (.int .i64 (z9 : Nat)) := by rw [← hw9, ← hA9]; exact heap_alloc_new w8 _
                have k9 : Below wr.heap.size wr w9 := below_step k8 (by rw [← hw9]; exact (Below.refl _ _).alloc (Nat.le_refl _) _)
                have HB9 : Hid (Below w7.heap.size w7 w9) := below_two HB.out k9
                obtain ⟨m0, m1, _, _, _⟩ := hs9.cells
                obtain ⟨p0, p1, _, _, _⟩ := (HM.out.2.1.later HB9.out).st.cells
                have ck9 : w9.cell? ⟨A, 0, none⟩ = some (.int .i64 0) := cell_later k9 _ _ _ ck
                clear k8 hw9 hA9 hs9 k9 HCS ck
                go_upto_region 28 with fail
                rw [HW9.out, HA9.out]
                clear HW9
                go_wp2_with fail
                go_roundw
                case rel => exact ⟨j + 1, d', P6, _, rfl, by go_num, by omega, by omega, HH.out.1, HM.out.1.later HB9.out⟩
                case measure => simp [Go.RowKit.intOf]; omega
            · have hre := HL.out.ren (by rw [← HOE.out]; exact hk) rfl
              rw [← HOE.out] at hre
              simp only at hre
              obtain ⟨⟨m, hm0, hm1⟩, hm2, _⟩ := hre
              have hnm : ob = nm := by have x := HTO.out.1; rw [if_pos hk] at x; exact x
              rw [hnm] at hm1 hm2
              obtain ⟨x1, x2, x3⟩ := err_lab hm2 hm1 hm0
              have haf : af = 0 := HST9.out.2.symm.trans x1
              have hq9' : q9 = Sf.ser d nm + 1 := by rw [(HST9.out.1 x1).1, x2]
              subst hk haf
              by_cases hbe : be = 0
              · have hqq : q9 = q0 + 1 := by rw [hq9', (HST.out.2.2.1 (HST.out.2.2.2.trans hbe)).1]
                have t6 : ((q9 : Int) != (q0 : Int) + 1) = false := by simp; omega
                subst hbe
                clear hqq hm0 hm1 hm2 hnm x1 x2 x3 hq9' hee
                as_aux_lemma =>
                  go_wp2_with fail
                  refine HCS.out.mono ?_
                  rintro e w8 ⟨rfl, k8⟩
                  obtain ⟨w9, hw9⟩ : ∃ w9, w8.alloc (.cells #[.int .i64 (n9 : Nat), .int .i64 (q9 : Nat), .int .i64 (g9 : Nat), .int .i64 (z9 : Nat)] 32) = w9 := ⟨_, rfl⟩
                  have HW9 : Hid (w8.alloc (.cells #[.int .i64 (n9 : Nat), .int .i64 (q9 : Nat), .int .i64 (g9 : Nat), .int .i64 (z9 : Nat)] 32) = w9) := hw9
                  obtain ⟨A9, hA9⟩ : ∃ A9, w8.heap.size = A9 := ⟨_, rfl⟩
                  have HA9 : Hid (w8.heap.size = A9) := hA9
                  have hs9 : StatB w9 A9 (.int .i64 (n9 : Nat)) (.int .i64 (q9 : Nat)) (.int .i64 (g9 : Nat)) (.int .i64 (z9 : Nat)) := by rw [← hw9, ← hA9]; exact heap_alloc_new w8 _
                  have k9 : Below wr.heap.size wr w9 := below_step k8 (by rw [← hw9]; exact (Below.refl _ _).alloc (Nat.le_refl _) _)
                  have HB9 : Hid (Below w7.heap.size w7 w9) := below_two HB.out k9
                  obtain ⟨m0, m1, _, _, _⟩ := hs9.cells
                  obtain ⟨p0, p1, _, _, _⟩ := (HM.out.2.1.later HB9.out).st.cells
                  have ck9 : w9.cell? ⟨A, 0, none⟩ = some (.int .i64 3) := cell_later k9 _ _ _ ck
                  clear k8 hw9 hA9 hs9 k9 HCS ck
                  go_upto_region 28 with fail
                  rw [HW9.out, HA9.out]
                  clear HW9
                  go_wp2_with fail
                  go_roundw
                  case rel => exact ⟨j + 1, d', P6, _, rfl, by go_num, by omega, by omega, HH.out.1, HM.out.1.later HB9.out⟩
                  case measure => simp [Go.RowKit.intOf]; omega
              · have t5 : ((be : Int) == (0 : Int)) = false := by simp; omega
                clear hm0 hm1 hm2 hnm x1 x2 x3 hq9' hee hbe
                as_aux_lemma =>
                  go_wp2_with fail
                  refine HCS.out.mono ?_
                  rintro e w8 ⟨rfl, k8⟩
                  obtain ⟨w9, hw9⟩ : ∃ w9, w8.alloc (.cells #[.int .i64 (n9 : Nat), .int .i64 (q9 : Nat), .int .i64 (g9 : Nat), .int .i64 (z9 : Nat)] 32) = w9 := ⟨_, rfl⟩
                  have HW9 : Hid (w8.alloc (.cells #[.int .i64 (n9 : Nat), .int .i64 (q9 : Nat), .int .i64 (g9 : Nat), .int .i64 (z9 : Nat)] 32) = w9) := hw9
                  obtain ⟨A9, hA9⟩ : ∃ A9, w8.heap.size = A9 := ⟨_, rfl⟩
                  have HA9 : Hid (w8.heap.size = A9) := hA9
                  have hs9 : StatB w9 A9 (.int .i64 (n9 : Nat)) (.int .i64 (q9 : Nat)) (.int .i64 (g9 : Nat)) (.int .i64 (z9 : Nat)) := by rw [← hw9, ← hA9]; exact heap_alloc_new w8 _
                  have k9 : Below wr.heap.size wr w9 := below_step k8 (by rw [← hw9]; exact (Below.refl _ _).alloc (Nat.le_refl _) _)
                  have HB9 : Hid (Below w7.heap.size w7 w9) := below_two HB.out k9
                  obtain ⟨m0, m1, _, _, _⟩ := hs9.cells
                  obtain ⟨p0, p1, _, _, _⟩ := (HM.out.2.1.later HB9.out).st.cells
                  have ck9 : w9.cell? ⟨A, 0, none⟩ = some (.int .i64 3) := cell_later k9 _ _ _ ck
                  clear k8 hw9 hA9 hs9 k9 HCS ck
                  go_upto_region 28 with fail
                  rw [HW9.out, HA9.out]
                  clear HW9
                  go_wp2_with fail
                  go_roundw
                  case rel => exact ⟨j + 1, d', P6, _, rfl, by go_num, by omega, by omega, HH.out.1, HM.out.1.later HB9.out⟩
                  case measure => simp [Go.RowKit.intOf]; omega
          | false =>
            have hse := HL.out.ser rfl nm
            simp only at hse
            by_cases hbe : be = 0
            · by_cases haf : af = 0
              · have hqq : q9 = q0 := by rw [(HST9.out.1 (HST9.out.2.trans haf)).1, (HST.out.2.2.1 (HST.out.2.2.2.trans hbe)).1, hse]
                have t6 : ((q9 : Int) != (q0 : Int)) = false := by simp; omega
                subst hbe haf
                clear hse hqq
                as_aux_lemma =>
                  go_wp2_with fail
                  refine HCS.out.mono ?_
                  rintro e w8 ⟨rfl, k8⟩
                  obtain ⟨w9, hw9⟩ : ∃ w9, w8.alloc (.cells #[.int .i64 (n9 : Nat), .int .i64 (q9 : Nat), .int .i64 (g9 : Nat), .int .i64 (z9 : Nat)] 32) = w9 := ⟨_, rfl⟩
                  have HW9 : Hid (w8.alloc (.cells #[.int .i64 (n9 : Nat), .int .i64 (q9 : Nat), .int .i64 (g9 : Nat), .int .i64 (z9 : Nat)] 32) = w9) := hw9
                  obtain ⟨A9, hA9⟩ : ∃ A9, w8.heap.size = A9 := ⟨_, rfl⟩
                  have HA9 : Hid (w8.heap.size = A9) := hA9
                  have hs9 : StatB w9 A9 (.int .i64 (n9 : Nat)) (.int .i64 (q9 : Nat)) (.int .i64 (g9 : Nat)) (.int .i64 (z9 : Nat)) := by rw [← hw9, ← hA9]; exact heap_alloc_new w8 _
                  have k9 : Below wr.heap.size wr w9 := below_step k8 (by rw [← hw9]; exact (Below.refl _ _).alloc (Nat.le_refl _) _)
                  have HB9 : Hid (Below w7.heap.size w7 w9) := below_two HB.out k9
                  obtain ⟨m0, m1, _, _, _⟩ := hs9.cells
                  obtain ⟨p0, p1, _, _, _⟩ := (HM.out.2.1.later HB9.out).st.cells
                  have ck9 : w9.cell? ⟨A, 0, none⟩ = some (.int .i64 kind) := cell_later k9 _ _ _ ck
                  clear k8 hw9 hA9 hs9 k9 HCS ck
                  go_upto_region 28 with fail
                  rw [HW9.out, HA9.out]
                  clear HW9
                  go_wp2_with fail
                  go_roundw
                  case rel => exact ⟨j + 1, d', P6, _, rfl, by go_num, by omega, by omega, HH.out.1, HM.out.1.later HB9.out⟩
                  case measure => simp [Go.RowKit.intOf]; omega
              · have t5 : ((af : Int) == (0 : Int)) = false := by simp; omega
                subst hbe
                clear hse haf
                as_aux_lemma =>
                  go_wp2_with fail
                  refine HCS.out.mono ?_
                  rintro e w8 ⟨rfl, k8⟩
                  obtain ⟨w9, hw9⟩ : ∃ w9, w8.alloc (.cells #[.int .i64 (n9 : Nat), .int .i64 (q9 : Nat), .int .i64 (g9 : Nat), .int .i64 (z9 : Nat)] 32) = w9 := ⟨_, rfl⟩
                  have HW9 : Hid (w8.alloc (.cells #[.int .i64 (n9 : Nat), .int .i64 (q9 : Nat), .int .i64 (g9 : Nat), .int .i64 (z9 : Nat)] 32) = w9) := hw9
                  obtain ⟨A9, hA9⟩ : ∃ A9, w8.heap.size = A9 := ⟨_, rfl⟩
                  have HA9 : Hid (w8.heap.size = A9) := hA9
                  have hs9 : StatB w9 A9 (.int .i64 (n9 : Nat)) (.int .i64 (q9 : Nat)) (.int .i64 (g9 : Nat)) (.int .i64 (z9 : Nat)) := by rw [← hw9, ← hA9]; exact heap_alloc_new w8 _
                  have k9 : Below wr.heap.size wr w9 := below_step k8 (by rw [← hw9]; exact (Below.refl _ _).alloc (Nat.le_refl _) _)
                  have HB9 : Hid (Below w7.heap.size w7 w9) := below_two HB.out k9
                  obtain ⟨m0, m1, _, _, _⟩ := hs9.cells
                  obtain ⟨p0, p1, _, _, _⟩ := (HM.out.2.1.later HB9.out).st.cells
                  have ck9 : w9.cell? ⟨A, 0, none⟩ = some (.int .i64 kind) := cell_later k9 _ _ _ ck
                  clear k8 hw9 hA9 hs9 k9 HCS ck
                  go_upto_region 28 with fail
                  rw [HW9.out, HA9.out]
                  clear HW9
                  go_wp2_with fail
                  go_roundw
                  case rel => exact ⟨j + 1, d', P6, _, rfl, by go_num, by omega, by omega, HH.out.1, HM.out.1.later HB9.out⟩
                  case measure => simp [Go.RowKit.intOf]; omega
            · have t5 : ((be : Int) == (0 : Int)) = false := by simp; omega
              clear hse hbe
              as_aux_lemma =>
                go_wp2_with fail
                refine HCS.out.mono ?_
                rintro e w8 ⟨rfl, k8⟩
                obtain ⟨w9, hw9⟩ : ∃ w9, w8.alloc (.cells #[.int .i64 (n9 : Nat), .int .i64 (q9 : Nat), .int .i64 (g9 : Nat), .int .i64 (z9 : Nat)] 32) = w9 := ⟨_, rfl⟩
                have HW9 : Hid (w8.alloc (.cells #[.int .i64 (n9 : Nat), .int .i64 (q9 : Nat), .int .i64 (g9 : Nat), .int .i64 (z9 : Nat)] 32) = w9) := hw9
                obtain ⟨A9, hA9⟩ : ∃ A9, w8.heap.size = A9 := ⟨_, rfl⟩
                have HA9 : Hid (w8.heap.size = A9) := hA9
                have hs9 : StatB w9 A9 (.int .i64 (n9 : Nat)) (.int .i64 (q9 : Nat)) (.int .i64 (g9 : Nat)) (.int .i64 (z9 : Nat)) := by rw [← hw9, ← hA9]; exact heap_alloc_new w8 _
                have k9 : Below wr.heap.size wr w9 := below_step k8 (by rw [← hw9]; exact (Below.refl _ _).alloc (Nat.le_refl _) _)
                have HB9 : Hid (Below w7.heap.size w7 w9) := below_two HB.out k9
                obtain ⟨m0, m1, _, _, _⟩ := hs9.cells
                obtain ⟨p0, p1, _, _, _⟩ := (HM.out.2.1.later HB9.out).st.cells
                have ck9 : w9.cell? ⟨A, 0, none⟩ = some (.int .i64 kind) := cell_later k9 _ _ _ ck
                clear k8 hw9 hA9 hs9 k9 HCS ck
                go_upto_region 28 with fail
                rw [HW9.out, HA9.out]
                clear HW9
                go_wp2_with fail
                go_roundw
                case rel => exact ⟨j + 1, d', P6, _, rfl, by go_num, by omega, by omega, HH.out.1, HM.out.1.later HB9.out⟩
                case measure => simp [Go.RowKit.intOf]; omega
    · have HE : Hid (Below w.heap.size w wr) := HS.out.2.lo
      by_cases hl1 : j < N
      · have l1 : (j : Int) < (N : Int) := by omega
        have l2 : ¬ (j : Int) < 80 := by omega
        go_wp2_with fail
        go_ret
        exact ⟨rfl, HE.out⟩
      · have l1 : ¬ (j : Int) < (N : Int) := by omega
        go_wp2_with fail
        go_ret
        exact ⟨rfl, HE.out⟩
end Go.Proofs.Ytjlfhaehdllmcaa
