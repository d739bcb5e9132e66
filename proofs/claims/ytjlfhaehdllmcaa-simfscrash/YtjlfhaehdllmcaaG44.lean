/- heronlaw14: SimfsCrash. -/
import Derived.Test.YtjlfhaehdllmcaaG41
import Derived.Test.YtjlfhaehdllmcaaG42
import Derived.Test.YtjlfhaehdllmcaaG43
import Derived.BigRegion
import Derived.Deep.RegionWith
namespace Go.Proofs.Ytjlfhaehdllmcaa
open Go.RowKit Go.Maps Sf Go.Sort
attribute [local go_sem ↓] Go.wp_at_zero Go.wp_at_succ

set_option maxRecDepth 8000 in
set_option maxHeartbeats 8000000 in
theorem crashlaw_any {w : World} {a : Option Addr} {c : Nat} {ops : List Opr} (h : OpsAt w a ops) {Kv : Value} {keep : List Int} (hKv : LAt w Kv (ints keep)) (hkl : keep.length ≤ 17592186043904) (hkg : ∀ z ∈ keep, goodI z) : Calls Try.prog 4 #[.slice a ops.length c, Kv] w fun e w' => e = .returned (.bool true) ∧ Below w.heap.size w w' := by
  have HO : Hid (OpsAt w a ops) := h
  obtain ⟨N, hN⟩ : ∃ N, ops.length = N := ⟨_, rfl⟩
  have HN : Hid (ops.length = N) := hN
  have hN2 : N ≤ 17592186043904 := by rw [← hN]; exact h.len
  rw [hN]
  obtain ⟨ka0, kc0, rfl⟩ := lat_len hKv
  obtain ⟨nk0, hnk⟩ : ∃ nk, (ints keep).length = nk := ⟨_, rfl⟩
  have HNK : Hid ((ints keep).length = nk0 ∧ nk0 ≤ 17592186043904) := ⟨hnk, by rw [← hnk, ints_len]; exact hkl⟩
  have hnk2 := HNK.out.2
  rw [hnk] at hKv ⊢
  have HKV : Hid (LAt w (.slice ka0 nk0 kc0) (ints keep) ∧ ∀ z ∈ keep, goodI z) := ⟨hKv, hkg⟩
  have HF : Hid (Calls Try.prog 5 #[] w _) := fixed_any w
  have hp1 : ∀ (p : Option Addr) (u : World), (binOp .eql 24 (.pointer p) (.pointer none)).run Try.prog u = .ok (.bool p.isNone) u := fun p u => run_eql_pointer_nil u _ p (by kernel_rfl)
  clear h hN hKv hkl hkg hnk
  go_enter Try.func4, Try.ntmps4
  go_wp2_with fail
  refine HF.out.mono ?_
  rintro e w0 ⟨rfl, k0⟩
  have HB0 : Hid (Below w.heap.size w w0) := k0
  have HNW : Hid (Calls Try.prog 6 #[] w0 _) := new_any w0
  clear k0 HF
  go_wp2_with fail
  refine HNW.out.mono ?_
  rintro e w1 ⟨B, P1, rfl, hd1, hlow, k1⟩
  have H0 : Hid (HsI w P1 B Sf.new 0 w1) := ⟨hd1, fun k hk => Nat.le_trans HB0.out.size (hlow k hk), below_two HB0.out k1⟩
  clear hd1 hlow k1 HNW
  go_wp2_with fail
  go_loopw [6, 7] (fun m i u => ∃ (j : Nat) (d : Dk) (P : Nat → Prop) (hi : Nat), m = .int .i64 (hi : Nat) ∧ i = .int .i64 (j : Nat) ∧ j ≤ N ∧ j ≤ 60 ∧ Hid (d.hi = hi ∧ HsI w P B d j u)) (fun _ i _ => 61 - (Go.RowKit.intOf i).toNat)
  case atStart => exact ⟨0, Sf.new, P1, 0, rfl, rfl, Nat.zero_le _, by omega, rfl, H0.out⟩
  case round =>
    obtain ⟨j, d, P, hi, rfl, rfl, hjN, hj60, HS⟩ := hrel
    clear H0
    go_upto_region 6 with fail
    go_cut [34] from 27 to 57 (fun v wx => v = .bool (decide (j < N ∧ j < 60)) ∧ wx = wr)
    case first =>
      by_cases h1 : j < N
      · have l1 : (j : Int) < (N : Int) := by omega
        by_cases h2 : j < 60
        · have l2 : (j : Int) < 60 := by omega
          have HT : Hid (decide (j < N ∧ j < 60) = true) := decide_eq_true ⟨h1, h2⟩
          clear h1 h2
          go_wp2_with fail
          go_meet
          case rel => exact ⟨by rw [HT.out], rfl⟩
        · have l2 : ¬ (j : Int) < 60 := by omega
          have HT : Hid (decide (j < N ∧ j < 60) = false) := decide_eq_false (fun x => h2 x.2)
          clear h1 h2
          go_wp2_with fail
          go_meet
          case rel => exact ⟨by rw [HT.out], rfl⟩
      · have l1 : ¬ (j : Int) < (N : Int) := by omega
        have HT : Hid (decide (j < N ∧ j < 60) = false) := decide_eq_false (fun x => h1 x.1)
        clear h1
        go_wp2_with fail
        go_meet
        case rel => exact ⟨by rw [HT.out], rfl⟩
    case rest =>
    obtain ⟨rfl, hwc⟩ := hcut
    rw [hwc]
    clear hwc
    by_cases hlt : j < N ∧ j < 60
    · rw [decide_eq_true hlt]
      obtain ⟨hl1, hl2⟩ := hlt
      have l1 : (j : Int) < (N : Int) := by omega
      obtain ⟨o, ho⟩ : ∃ o, ops[j]? = some o := ⟨_, List.getElem?_eq_getElem (by rw [HN.out]; exact hl1)⟩
      have HG : Hid (OpGood w o) := HO.out.good o (List.mem_of_getElem? ho)
      obtain ⟨b, off, rfl, hcell0⟩ : ∃ b off, a = some ⟨b, off, none⟩ ∧ ∀ k v, o.cells[k]? = some v → w.cell? ⟨b, off + j * 11 + k, none⟩ = some v := by
        rcases HO.out.cells with x | ⟨b, off, e, x⟩
        · rw [x] at ho; cases ho
        · exact ⟨b, off, e, fun k v hv => x j o ho k v hv⟩
      have hcell : ∀ k v, o.cells[k]? = some v → wr.cell? ⟨b, off + j * 11 + k, none⟩ = some v := fun k v hv => cell_later HS.out.2.lo _ _ _ (hcell0 k v hv)
      obtain ⟨kind, dd, oa, ob, os, tm, nn, mm, oo, zz, kv, keep⟩ := o
      have HK0 : Hid (w.cell? ⟨b, off + j * 11, none⟩ = some (.int .i64 kind)) := hcell0 0 _ rfl
      obtain ⟨ka, kc, hkv, _⟩ := HG.out.kv
      simp only at hkv
      subst hkv
      obtain ⟨nk, hnk⟩ : ∃ nk, (ints keep).length = nk := ⟨_, rfl⟩
      rw [hnk] at HG hcell
      have f0 : wr.cell? ⟨b, off + j * 11, none⟩ = some (.int .i64 kind) := hcell 0 _ rfl
      have f1 : wr.cell? ⟨b, off + j * 11 + 1, none⟩ = some (.int .i64 dd) := hcell 1 _ rfl
      have f2 : wr.cell? ⟨b, off + j * 11 + 2, none⟩ = some (.string oa) := hcell 2 _ rfl
      have f3 : wr.cell? ⟨b, off + j * 11 + 3, none⟩ = some (.string ob) := hcell 3 _ rfl
      have f4 : wr.cell? ⟨b, off + j * 11 + 4, none⟩ = some (.string os) := hcell 4 _ rfl
      have f5 : wr.cell? ⟨b, off + j * 11 + 5, none⟩ = some (.int .i64 tm) := hcell 5 _ rfl
      have f6 : wr.cell? ⟨b, off + j * 11 + 6, none⟩ = some (.int .i64 nn) := hcell 6 _ rfl
      have f7 : wr.cell? ⟨b, off + j * 11 + 7, none⟩ = some (.int .i64 mm) := hcell 7 _ rfl
      have f8 : wr.cell? ⟨b, off + j * 11 + 8, none⟩ = some (.int .i64 oo) := hcell 8 _ rfl
      have f9 : wr.cell? ⟨b, off + j * 11 + 9, none⟩ = some (.int .i64 zz) := hcell 9 _ rfl
      have f10 : wr.cell? ⟨b, off + j * 11 + 10, none⟩ = some (.slice ka nk kc) := hcell 10 _ rfl
      clear hcell hcell0 ho hnk
      obtain ⟨o, ho⟩ : ∃ o : Opr, (⟨kind, dd, oa, ob, os, tm, nn, mm, oo, zz, .slice ka nk kc, keep⟩ : Opr) = o := ⟨_, rfl⟩
      have HOE : Hid ((⟨kind, dd, oa, ob, os, tm, nn, mm, oo, zz, .slice ka nk kc, keep⟩ : Opr) = o) := ho
      rw [ho] at HG
      have HC : Hid (Calls Try.prog 9 #[.pointer (some ⟨B, 0, none⟩), .agg #[.int .i64 kind, .int .i64 dd, .string oa, .string ob, .string os, .int .i64 tm, .int .i64 nn, .int .i64 mm, .int .i64 oo, .int .i64 zz, .slice ka nk kc]] wr (DoesPost P wr B d j o)) := by
        have h1 := does_any HS.out.2.dk o HG.out.ok (lat_off HG.out.kv HS.out.2.lo HS.out.2.hp) HG.out.kl
        have e1 : o.cells = #[.int .i64 kind, .int .i64 dd, .string oa, .string ob, .string os, .int .i64 tm, .int .i64 nn, .int .i64 mm, .int .i64 oo, .int .i64 zz, .slice ka nk kc] := by rw [← HOE.out]; rfl
        rw [e1] at h1
        exact h1
      clear ho
      go_wp2_with fail
      refine HC.out.mono ?_
      rintro e w6 ⟨l, rfl, hdk⟩
      have hlaw := law_any HS.out.2.dk.wf o l
      have hwf := doR_wf HS.out.2.dk.wf o l
      obtain ⟨⟨d', ee, arr⟩, hr⟩ : ∃ r, doR d o l = r := ⟨_, rfl⟩
      rw [hr] at hdk hlaw hwf ⊢
      simp only at hdk hwf ⊢
      have HS6 : Hid (HsI w (More P wr w6) B d' (j + 1) w6) := HS.out.2.next (Below.refl _ _) hdk hwf (by omega)
      obtain ⟨P6, hP6⟩ : ∃ P6, More P wr w6 = P6 := ⟨_, rfl⟩
      rw [hP6] at HS6
      obtain ⟨hi', hhi'⟩ : ∃ x, d'.hi = x := ⟨_, rfl⟩
      have hil' : hi' ≤ 81 := by have := hwf.hi; omega
      have HH : Hid (d'.hi = hi' ∧ d.hi = hi ∧ hi' = if kind = 0 ∧ ee = 0 then hi + 1 else hi) := ⟨hhi', HS.out.1, by have x := hlaw.hi; rw [← HOE.out, HS.out.1] at x; rw [← hhi']; exact x⟩
      have c0 : w6.cell? ⟨b, off + j * 11, none⟩ = some (.int .i64 kind) := cell_later HS6.out.lo _ _ _ HK0.out
      have hhl : hi ≤ 80 := by have := HS.out.2.dk.wf.hi; have := HS.out.1; omega
      clear hdk hlaw hwf hr hP6 hhi' HC f0 f1 f2 f3 f4 f5 f6 f7 f8 f9 f10
      go_upto_region 9 with fail
      go_cut [55] from 27 to 57 (fun v wx => v = .bool (decide (kind = 0 ∧ ee = 0)) ∧ wx = w6)
      case first =>
        by_cases he : ee = 0
        · have t1 : ((ee : Int) == (0 : Int)) = true := by simp; omega
          by_cases hk0 : kind = 0
          · have t0 : (kind == (0 : Int)) = true := by simp; omega
            have HT : Hid (decide (kind = 0 ∧ ee = 0) = true) := decide_eq_true ⟨hk0, he⟩
            clear hk0 he
            go_wp2_with fail
            go_meet
            case rel => exact ⟨by rw [HT.out], rfl⟩
          · have t0 : (kind == (0 : Int)) = false := by simp; omega
            have HT : Hid (decide (kind = 0 ∧ ee = 0) = false) := decide_eq_false (fun x => hk0 x.1)
            clear hk0 he
            go_wp2_with fail
            go_meet
            case rel => exact ⟨by rw [HT.out], rfl⟩
        · have t1 : ((ee : Int) == (0 : Int)) = false := by simp; omega
          have HT : Hid (decide (kind = 0 ∧ ee = 0) = false) := decide_eq_false (fun x => he x.2)
          clear he
          go_wp2_with fail
          go_meet
          case rel => exact ⟨by rw [HT.out], rfl⟩
      case rest =>
      obtain ⟨rfl, hwc⟩ := hcut
      rw [hwc]
      clear hwc c0
      obtain ⟨cr, hcr⟩ : ∃ cr, decide (kind = 0 ∧ ee = 0) = cr := ⟨_, rfl⟩
      have HCR : Hid (decide (kind = 0 ∧ ee = 0) = cr) := hcr
      rw [hcr]
      clear hcr
      cases cr with
      | true =>
        have HT : Hid (hi' = hi + 1) := by have x := HH.out.2.2; rw [if_pos (of_decide_eq_true HCR.out)] at x; exact x
        go_wp2_with fail
        go_roundw
        case rel => exact ⟨j + 1, d', P6, hi', by rw [HT.out]; go_num, by go_num, by omega, by omega, HH.out.1, HS6.out⟩
        case measure => simp [Go.RowKit.intOf]; omega
      | false =>
        have HT : Hid (hi' = hi) := by have x := HH.out.2.2; rw [if_neg (of_decide_eq_false HCR.out)] at x; exact x
        go_wp2_with fail
        go_roundw
        case rel => exact ⟨j + 1, d', P6, hi', by rw [HT.out], by go_num, by omega, by omega, HH.out.1, HS6.out⟩
        case measure => simp [Go.RowKit.intOf]; omega
    · rw [decide_eq_false hlt]
      have hhl : hi ≤ 60 := by have := HS.out.2.dk.wf.hi; have := HS.out.1; omega
      have HC : Hid (Calls Try.prog 7 #[.pointer (some ⟨B, 0, none⟩), .int .i64 (hi : Nat)] wr (SeenPost d hi wr)) := seen_any HS.out.2.dk hi (by omega)
      clear hlt
      go_wp2_with fail
      refine HC.out.mono ?_
      rintro e z1 ⟨V10, rfl, r10, k1⟩
      have HN1 : Hid (Calls Try.prog 11 #[.pointer (some ⟨B, 0, none⟩)] z1 _) := names_any (HS.out.2.dk.later k1)
      have HR1 : Hid (z1.ownsRow wr.heap.size 40 5 V10 hi (flatF (files d hi)) ∧ Below wr.heap.size wr z1) := ⟨r10, k1⟩
      obtain ⟨a10, c10, rfl⟩ := own_form r10
      clear HC r10 k1
      go_wp2_with fail
      refine HN1.out.mono ?_
      rintro e z2 ⟨V11, rfl, r11, k2⟩
      have HC : Hid (Calls Try.prog 12 #[.pointer (some ⟨B, 0, none⟩)] z2 (CopyPost z2 d j)) := copy_any ((HS.out.2.dk.later HR1.out.2).later k2)
      have HR2 : Hid (z2.ownsRow z1.heap.size 9 1 V11 (nmL d).length ((nmL d).map encStr) ∧ Below z1.heap.size z1 z2) := ⟨r11, k2⟩
      obtain ⟨a11, c11, rfl⟩ := own_form r11
      clear HN1 r11 k2
      go_wp2_with fail
      refine HC.out.mono ?_
      rintro e z3 ⟨B2, P2, rfl, h3, hp2, k3⟩
      have HR3 : Hid (Dsk P2 z3 B2 d j ∧ (∀ k, P2 k → z2.heap.size ≤ k) ∧ Below z2.heap.size z2 z3) := ⟨h3, hp2, k3⟩
      have HC2 : Hid (Calls Try.prog 12 #[.pointer (some ⟨B, 0, none⟩)] z3 (CopyPost z3 d j)) := copy_any (((HS.out.2.dk.later HR1.out.2).later HR2.out.2).later k3)
      clear HC h3 hp2 k3
      go_wp2_with fail
      refine HC2.out.mono ?_
      rintro e z4 ⟨C, Q, rfl, h4, hq, k4⟩
      obtain ⟨R, Rw, h2, hrw, hb, hd⟩ := cr2_start HS.out.2 HR1.out.2 HR1.out.1 HR2.out.2 HR2.out.1 HR3.out.2.2 HR3.out.1 HR3.out.2.1 k4 h4 hq
      have HX4 : Hid (Cr2 w P Q R B C d d j Rw z4) := h2
      have HW4 : Hid (∀ x, Rw x → (∃ base, x.ownsRow base 40 5 (.slice a10 hi c10) hi (flatF (files d hi))) ∧ ∃ base, x.ownsRow base 9 1 (.slice a11 (nmL d).length c11) (nmL d).length ((nmL d).map encStr)) := fun x hx => ⟨⟨_, (hrw x hx).1⟩, ⟨_, (hrw x hx).2⟩⟩
      have HD4 : Hid (Dsk P2 z4 B2 d j ∧ ∀ k, P2 k → w.heap.size ≤ k ∧ ¬ P k ∧ ¬ Q k ∧ ¬ R k) := ⟨hb, hd⟩
      have HH : Hid (d.hi = hi) := HS.out.1
      have HC : Hid (Calls Try.prog 13 #[.pointer (some ⟨B2, 0, none⟩), .slice none 0 0] z4 _) := dcrash_any hb (lx_nil _ z4) (fun z hz => by simp at hz)
      clear HC2 h4 hq k4 h2 hrw hb hd HR1 HR2 HR3 HS
      go_wp2_with fail
      refine HC.out.mono ?_
      rintro e z5 ⟨rfl, hd5⟩
      have HX5 : Hid (Cr2 w P Q R B C d d j Rw z5) := HX4.out.other hd5.2 (fun k hk x => (HD4.out.2 k x).2.1 hk) (fun k hk x => (HD4.out.2 k x).2.2.1 hk) (fun k hk x => (HD4.out.2 k x).2.2.2 hk) (fun k x => (HD4.out.2 k x).1)
      have HC2 : Hid (Calls Try.prog 7 #[.pointer (some ⟨B2, 0, none⟩), .int .i64 (hi : Nat)] z5 (SeenPost (Sf.crash d []) hi z5)) := seen_any (⟨HD4.out.1.wf.crash, hd5.1.up (Nat.le_succ j), by omega⟩ : Dsk (More P2 z4 z5) z5 B2 (Sf.crash d []) (j + 1)) hi (by omega)
      clear HC hd5 HX4 HD4
      go_wp2_with fail
      refine HC2.out.mono ?_
      rintro e z6 ⟨V14, rfl, r14, k6⟩
      obtain ⟨R6, Rw6, h6, hrw6⟩ := HX5.out.row k6 r14
      obtain ⟨a14, c14, rfl⟩ := own_form r14
      have HX6 : Hid (Cr2 w P Q R6 B C d d j Rw6 z6) := h6
      have HW6 : Hid (∀ x, Rw6 x → Rw x ∧ ∃ base, x.ownsRow base 40 5 (.slice a14 hi c14) hi (flatF (files (Sf.crash d []) hi))) := fun x hx => ⟨(hrw6 x hx).1, ⟨_, (hrw6 x hx).2⟩⟩
      clear HC2 HX5 h6 hrw6 r14 k6
      go_wp2_with (first
        | (at_make; refine wpList_make_int rfl _ _ rfl z6.heap.size hi (Nat.le_refl _) rfl rfl (by omega) ?_; intro w' m1 m2; have HM0 : Hid (MkI z6 z6.heap.size hi 0 w') := mk_start m1 m2; clear m1 m2; obtain ⟨A, hA⟩ : ∃ A, z6.heap.size = A := ⟨_, rfl⟩; have HA : Hid (z6.heap.size = A) := hA; rw [hA] at HM0 ⊢; clear hA)
        | fail)
      go_loopw [16] (fun v u => ∃ i : Nat, v = .int .i64 (i : Nat) ∧ i ≤ hi ∧ Hid (MkI z6 A hi i u)) (fun v _ => hi - (Go.RowKit.intOf v).toNat)
      case atStart => exact ⟨0, rfl, Nat.zero_le _, HM0⟩
      case round =>
      obtain ⟨i, rfl, hil, HM⟩ := hrel
      clear HM0
      by_cases hlt : i < hi
      · have l1 : (i : Int) < (hi : Int) := by omega
        obtain ⟨q1, q2⟩ := HM.out.cell hlt
        have HM1 : Hid (MkI z6 A hi (i + 1) _) := HM.out.next hlt
        clear HM
        go_wp2_with fail
        go_roundw
        case rel => exact ⟨i + 1, by go_num, by omega, HM1⟩
        case measure => simp [Go.RowKit.intOf]; omega
      have l1 : ¬ (i : Int) < (hi : Int) := by omega
      obtain rfl : i = hi := by omega
      as_aux_lemma =>
      have HX8 : Hid (Cr2 w P Q R6 B C d d j Rw6 wr) := HX6.out.later HM.out.lo
      have HC : Hid (Calls Try.prog 13 #[.pointer (some ⟨C, 0, none⟩), .slice (some ⟨A, 0, none⟩) i i] wr _) := dcrash_any HX8.out.two (lx_own (HM.out.own (by omega)) HX6.out.two.m.low) (mkL_good i i)
      clear HM HX6 hlt hil
      go_wp2_with fail
      refine HC.out.mono ?_
      rintro e z9 ⟨rfl, hd9⟩
      obtain ⟨f9, hf9⟩ : ∃ f9, Sf.crash d (mkL i i) = f9 := ⟨_, rfl⟩
      have HX9 : Hid (Cr2 w P (More Q wr z9) R6 B C d f9 (j + 1) Rw6 z9) := by rw [← hf9]; exact HX8.out.second hd9 HX8.out.two.wf.crash (by omega)
      have HF9 : Hid (Sf.crash d (mkL i i) = f9) := hf9
      obtain ⟨Q9, hQ9⟩ : ∃ Q9, More Q wr z9 = Q9 := ⟨_, rfl⟩
      rw [hQ9] at HX9
      have HWD : Hid (Wf d j) := HX8.out.one.wf
      clear HC hd9 HX8 hf9 hQ9
      have HB9 : Hid (Below z9.heap.size z9 (z9.alloc (.cells #[] 3))) := (Below.refl _ _).alloc (Nat.le_refl _) _
      have HO9 : Hid ((z9.alloc (.cells #[] 3)).ownsRow z9.heap.size 3 1 (.slice (some ⟨z9.heap.size, 0, none⟩) 0 0) 0 []) := ⟨rfl, .inr ⟨z9.heap.size, 0, #[], rfl, Nat.le_refl _, heap_alloc_new z9 _, Nat.le_refl _, by decide, rfl, rfl⟩⟩
      have HL9 : Hid (LAt (z9.alloc (.cells #[] 3)) (.slice ka0 nk0 kc0) (ints keep)) := (HKV.out.1.later HX9.out.lo).later HB9.out
      go_wp2_with (first
        | (refine wpList_append_lat rfl (.tmp 92) (.tmp 93) rfl (.int .i64 0) 8 (by kernel_rfl) infI rfl z9.heap.size _ 0 [] rfl HO9.out _ (ints keep) rfl HL9.out (fun u hu => by obtain ⟨z, _, rfl⟩ := List.mem_map.1 hu; rfl) (by rw [HNK.out.1]; unfold maxLen; omega) (by rw [HNK.out.1]; omega) HB9.out.size ?_; intro V' w3 ho3 hg3 hn3 hh3; rw [HNK.out.1, Nat.zero_add, List.nil_append] at ho3; have HK3 : Hid (Below z9.heap.size z9 w3) := below_app HB9.out hg3 (fun k e => by have e2 : some z9.heap.size = some k := e; injection e2 with e2; omega); have HCC : Hid (Calls Try.prog 13 #[.pointer (some ⟨B, 0, none⟩), V'] w3 _) := dcrash_any (HX9.out.later HK3.out).one (Kv := V') (keep := keep) (lx_own ho3 HX9.out.one.m.low) HKV.out.2; obtain ⟨v1, v2, rfl⟩ := own_form ho3; clear ho3 hg3 hn3 hh3)
        | fail)
      refine HCC.out.mono ?_
      rintro e z11 ⟨rfl, hdd⟩
      obtain ⟨d1, hd1⟩ : ∃ d1, Sf.crash d keep = d1 := ⟨_, rfl⟩
      have HD1 : Hid (Sf.crash d keep = d1) := hd1
      have HX11 : Hid (Cr2 w (More P w3 z11) Q9 R6 B C d1 f9 (j + 1 + 1) Rw6 z11) := by rw [← hd1]; exact (HX9.out.later HK3.out).first hdd (HX9.out.one.wf.crash) (by omega)
      obtain ⟨P11, hP11⟩ : ∃ P11, More P w3 z11 = P11 := ⟨_, rfl⟩
      rw [hP11] at HX11
      have HC : Hid (Calls Try.prog 7 #[.pointer (some ⟨B, 0, none⟩), .int .i64 (i : Nat)] z11 (SeenPost d1 i z11)) := seen_any HX11.out.one i (by omega)
      clear HCC hdd HX9 HK3 HB9 HO9 HL9 hd1 hP11
      go_wp2_with fail
      refine HC.out.mono ?_
      rintro e z12 ⟨V17, rfl, r17, k12⟩
      obtain ⟨R12, Rw12, h12, hrw12⟩ := HX11.out.row k12 r17
      obtain ⟨a17, c17, rfl⟩ := own_form r17
      have HX12 : Hid (Cr2 w P11 Q9 R12 B C d1 f9 (j + 1 + 1) Rw12 z12) := h12
      have HW12 : Hid (∀ x, Rw12 x → Rw6 x ∧ ∃ base, x.ownsRow base 40 5 (.slice a17 i c17) i (flatF (files d1 i))) := fun x hx => ⟨(hrw12 x hx).1, ⟨_, (hrw12 x hx).2⟩⟩
      clear HC HX11 h12 hrw12 r17 k12
      have HB12 : Hid (Below z12.heap.size z12 (z12.alloc (.cells #[] 3))) := (Below.refl _ _).alloc (Nat.le_refl _) _
      have HO12 : Hid ((z12.alloc (.cells #[] 3)).ownsRow z12.heap.size 3 1 (.slice (some ⟨z12.heap.size, 0, none⟩) 0 0) 0 []) := ⟨rfl, .inr ⟨z12.heap.size, 0, #[], rfl, Nat.le_refl _, heap_alloc_new z12 _, Nat.le_refl _, by decide, rfl, rfl⟩⟩
      have HL12 : Hid (LAt (z12.alloc (.cells #[] 3)) (.slice ka0 nk0 kc0) (ints keep)) := (HKV.out.1.later HX12.out.lo).later HB12.out
      go_wp2_with (first
        | (refine wpList_append_lat rfl (.tmp 100) (.tmp 101) rfl (.int .i64 0) 8 (by kernel_rfl) infI rfl z12.heap.size _ 0 [] rfl HO12.out _ (ints keep) rfl HL12.out (fun u hu => by obtain ⟨z, _, rfl⟩ := List.mem_map.1 hu; rfl) (by rw [HNK.out.1]; unfold maxLen; omega) (by rw [HNK.out.1]; omega) HB12.out.size ?_; intro V' w3 ho3 hg3 hn3 hh3; rw [HNK.out.1, Nat.zero_add, List.nil_append] at ho3; have HK3 : Hid (Below z12.heap.size z12 w3) := below_app HB12.out hg3 (fun k e => by have e2 : some z12.heap.size = some k := e; injection e2 with e2; omega); have HCC : Hid (Calls Try.prog 13 #[.pointer (some ⟨B, 0, none⟩), V'] w3 _) := dcrash_any (HX12.out.later HK3.out).one (Kv := V') (keep := keep) (lx_own ho3 HX12.out.one.m.low) HKV.out.2; obtain ⟨v3, v4, rfl⟩ := own_form ho3; clear ho3 hg3 hn3 hh3)
        | fail)
      refine HCC.out.mono ?_
      rintro e z14 ⟨rfl, hdd⟩
      have HDD : Hid (Sf.crash d1 keep = d1) := by rw [← HD1.out]; exact crash_again HWD.out keep keep
      have HX14 : Hid (Cr2 w (More P11 w3 z14) Q9 R12 B C d1 f9 (j + 1 + 1 + 1) Rw12 z14) := by have x := (HX12.out.later HK3.out).first hdd (HX12.out.one.wf.crash) (by omega); rw [HDD.out] at x; exact x
      obtain ⟨P14, hP14⟩ : ∃ P14, More P11 w3 z14 = P14 := ⟨_, rfl⟩
      rw [hP14] at HX14
      have HC : Hid (Calls Try.prog 7 #[.pointer (some ⟨B, 0, none⟩), .int .i64 (i : Nat)] z14 (SeenPost d1 i z14)) := seen_any HX14.out.one i (by omega)
      clear HCC hdd HX12 HK3 HB12 HO12 HL12 hP14 HDD
      go_wp2_with fail
      refine HC.out.mono ?_
      rintro e z15 ⟨V18, rfl, r18, k15⟩
      obtain ⟨R15, Rw15, h15, hrw15⟩ := HX14.out.row k15 r18
      obtain ⟨a18, c18, rfl⟩ := own_form r18
      have HX15 : Hid (Cr2 w P14 Q9 R15 B C d1 f9 (j + 1 + 1 + 1) Rw15 z15) := h15
      have HW15 : Hid (∀ x, Rw15 x → Rw12 x ∧ ∃ base, x.ownsRow base 40 5 (.slice a18 i c18) i (flatF (files d1 i))) := fun x hx => ⟨(hrw15 x hx).1, ⟨_, (hrw15 x hx).2⟩⟩
      have HFD : Hid (∀ m, files f9 m = files d m) := fun m => by rw [← HF9.out]; exact files_full HWD.out (fun z hz => mkL_all (by rw [← HH.out]; exact hz)) m
      have HC2 : Hid (Calls Try.prog 7 #[.pointer (some ⟨C, 0, none⟩), .int .i64 (i : Nat)] z15 (SeenPost f9 i z15)) := seen_any HX15.out.two i (by omega)
      clear HC HX14 h15 hrw15 r18 k15
      go_wp2_with fail
      refine HC2.out.mono ?_
      rintro e z16 ⟨V19, rfl, r19, k16⟩
      rw [HFD.out] at r19
      obtain ⟨R16, Rw16, h16, hrw16⟩ := HX15.out.row k16 r19
      obtain ⟨a19, c19, rfl⟩ := own_form r19
      have HX16 : Hid (Cr2 w P14 Q9 R16 B C d1 f9 (j + 1 + 1 + 1) Rw16 z16) := h16
      have HW16 : Hid (∀ x, Rw16 x → Rw15 x ∧ ∃ base, x.ownsRow base 40 5 (.slice a19 i c19) i (flatF (files d i))) := fun x hx => ⟨(hrw16 x hx).1, ⟨_, (hrw16 x hx).2⟩⟩
      have HC : Hid (Calls Try.prog 13 #[.pointer (some ⟨C, 0, none⟩), .slice none 0 0] z16 _) := dcrash_any HX16.out.two (lx_nil _ z16) (fun z hz => by simp at hz)
      clear HC2 HX15 h16 hrw16 r19 k16
      go_wp2_with fail
      refine HC.out.mono ?_
      rintro e z17 ⟨rfl, hd17⟩
      have HDD : Hid (Sf.crash f9 [] = f9) := by rw [← HF9.out]; exact crash_again HWD.out _ _
      have HX17 : Hid (Cr2 w P14 (More Q9 z16 z17) R16 B C d1 f9 (j + 1 + 1 + 1 + 1) Rw16 z17) := by have x := HX16.out.second hd17 (HX16.out.two.wf.crash) (by omega); rw [HDD.out] at x; exact x
      obtain ⟨Q17, hQ17⟩ : ∃ Q17, More Q9 z16 z17 = Q17 := ⟨_, rfl⟩
      rw [hQ17] at HX17
      have HC2 : Hid (Calls Try.prog 7 #[.pointer (some ⟨C, 0, none⟩), .int .i64 (i : Nat)] z17 (SeenPost f9 i z17)) := seen_any HX17.out.two i (by omega)
      clear HC HX16 hd17 hQ17 HDD
      go_wp2_with fail
      refine HC2.out.mono ?_
      rintro e z18 ⟨V20, rfl, r20, k18⟩
      rw [HFD.out] at r20
      obtain ⟨R18, Rw18, h18, hrw18⟩ := HX17.out.row k18 r20
      obtain ⟨a20, c20, rfl⟩ := own_form r20
      have HX18 : Hid (Cr2 w P14 Q17 R18 B C d1 f9 (j + 1 + 1 + 1 + 1) Rw18 z18) := h18
      have HW18 : Hid (∀ x, Rw18 x → Rw16 x ∧ ∃ base, x.ownsRow base 40 5 (.slice a20 i c20) i (flatF (files d i))) := fun x hx => ⟨(hrw18 x hx).1, ⟨_, (hrw18 x hx).2⟩⟩
      have HR0 : Hid (Below z18.heap.size z18 z18) := Below.refl _ _
      clear HC2 HX17 h18 hrw18 r20 k18
      go_wp2_with fail
      go_loopw [21] (fun v u => ∃ n : Nat, v = .int .i64 (n : Nat) ∧ n ≤ i ∧ Hid (Below z18.heap.size z18 u)) (fun v _ => i - (Go.RowKit.intOf v).toNat)
      case atStart => exact ⟨0, rfl, Nat.zero_le _, HR0⟩
      case round =>
      obtain ⟨n, rfl, hn, HB⟩ := hrel
      clear HR0
      by_cases hlt : n < i
      · have l1 : (n : Int) < (i : Int) := by omega
        obtain ⟨_, rrw⟩ := ((HW4.out _ (HW6.out _ (HW12.out _ (HW15.out _ (HW16.out _ (HW18.out _ HX18.out.rw).1).1).1).1).1).1)
        obtain ⟨bw, rfl, xw⟩ := files_row rrw hlt
        obtain ⟨_, rrl⟩ := (HW6.out _ (HW12.out _ (HW15.out _ (HW16.out _ (HW18.out _ HX18.out.rw).1).1).1).1).2
        obtain ⟨bl, rfl, xl⟩ := files_row rrl hlt
        obtain ⟨_, rri⟩ := (HW12.out _ (HW15.out _ (HW16.out _ (HW18.out _ HX18.out.rw).1).1).1).2
        obtain ⟨bi, rfl, xi⟩ := files_row rri hlt
        obtain ⟨_, rra⟩ := (HW15.out _ (HW16.out _ (HW18.out _ HX18.out.rw).1).1).2
        obtain ⟨ba, rfl, xa⟩ := files_row rra hlt
        obtain ⟨_, rrs⟩ := (HW16.out _ (HW18.out _ HX18.out.rw).1).2
        obtain ⟨bs, rfl, xs⟩ := files_row rrs hlt
        obtain ⟨_, rrt⟩ := (HW18.out _ HX18.out.rw).2
        obtain ⟨bt, rfl, xt⟩ := files_row rrt hlt
        have hlaw : CrLaw (fileOf d (n + 1)) (fileOf d1 (n + 1)) (fileOf (Sf.crash d []) (n + 1)) := by rw [← HD1.out]; exact cr_law HWD.out keep (n + 1)
        have hok1 := fileOf_ok (n := n + 1) HWD.out (by omega)
        have hok2 := fileOf_ok (n := n + 1) HX18.out.one.wf (by omega)
        obtain ⟨⟨i1, s1, g1, z1, y1⟩, hf1⟩ : ∃ fa, fileOf d (n + 1) = fa := ⟨_, rfl⟩
        obtain ⟨⟨i2, s2, g2, z2, y2⟩, hf2⟩ : ∃ fa, fileOf d1 (n + 1) = fa := ⟨_, rfl⟩
        obtain ⟨⟨i3, s3, g3, z3, y3⟩, hf3⟩ : ∃ fa, fileOf (Sf.crash d []) (n + 1) = fa := ⟨_, rfl⟩
        rw [hf1, hf2, hf3] at hlaw
        rw [hf1] at hok1
        rw [hf2] at hok2
        rw [hf1] at xw
        rw [hf3] at xl
        rw [hf2] at xi
        rw [hf2] at xa
        rw [hf1] at xs
        rw [hf1] at xt
        have bw_0 : wr.cell? ⟨bw, n * 5, none⟩ = some (.int .i64 (i1 : Nat)) := cell_later HB.out _ _ _ (xw 0 _ rfl)
        have bw_1 : wr.cell? ⟨bw, n * 5 + 1, none⟩ = some (.int .i64 (s1 : Nat)) := cell_later HB.out _ _ _ (xw 1 _ rfl)
        have bw_2 : wr.cell? ⟨bw, n * 5 + 2, none⟩ = some (.int .i64 (g1 : Nat)) := cell_later HB.out _ _ _ (xw 2 _ rfl)
        have bw_3 : wr.cell? ⟨bw, n * 5 + 3, none⟩ = some (.int .i64 (z1 : Nat)) := cell_later HB.out _ _ _ (xw 3 _ rfl)
        have bw_4 : wr.cell? ⟨bw, n * 5 + 4, none⟩ = some (.string y1) := cell_later HB.out _ _ _ (xw 4 _ rfl)
        have bl_4 : wr.cell? ⟨bl, n * 5 + 4, none⟩ = some (.string y3) := cell_later HB.out _ _ _ (xl 4 _ rfl)
        have bi_0 : wr.cell? ⟨bi, n * 5, none⟩ = some (.int .i64 (i2 : Nat)) := cell_later HB.out _ _ _ (xi 0 _ rfl)
        have bi_1 : wr.cell? ⟨bi, n * 5 + 1, none⟩ = some (.int .i64 (s2 : Nat)) := cell_later HB.out _ _ _ (xi 1 _ rfl)
        have bi_2 : wr.cell? ⟨bi, n * 5 + 2, none⟩ = some (.int .i64 (g2 : Nat)) := cell_later HB.out _ _ _ (xi 2 _ rfl)
        have bi_3 : wr.cell? ⟨bi, n * 5 + 3, none⟩ = some (.int .i64 (z2 : Nat)) := cell_later HB.out _ _ _ (xi 3 _ rfl)
        have bi_4 : wr.cell? ⟨bi, n * 5 + 4, none⟩ = some (.string y2) := cell_later HB.out _ _ _ (xi 4 _ rfl)
        have ba_0 : wr.cell? ⟨ba, n * 5, none⟩ = some (.int .i64 (i2 : Nat)) := cell_later HB.out _ _ _ (xa 0 _ rfl)
        have ba_1 : wr.cell? ⟨ba, n * 5 + 1, none⟩ = some (.int .i64 (s2 : Nat)) := cell_later HB.out _ _ _ (xa 1 _ rfl)
        have ba_2 : wr.cell? ⟨ba, n * 5 + 2, none⟩ = some (.int .i64 (g2 : Nat)) := cell_later HB.out _ _ _ (xa 2 _ rfl)
        have ba_3 : wr.cell? ⟨ba, n * 5 + 3, none⟩ = some (.int .i64 (z2 : Nat)) := cell_later HB.out _ _ _ (xa 3 _ rfl)
        have ba_4 : wr.cell? ⟨ba, n * 5 + 4, none⟩ = some (.string y2) := cell_later HB.out _ _ _ (xa 4 _ rfl)
        have bs_0 : wr.cell? ⟨bs, n * 5, none⟩ = some (.int .i64 (i1 : Nat)) := cell_later HB.out _ _ _ (xs 0 _ rfl)
        have bs_1 : wr.cell? ⟨bs, n * 5 + 1, none⟩ = some (.int .i64 (s1 : Nat)) := cell_later HB.out _ _ _ (xs 1 _ rfl)
        have bs_2 : wr.cell? ⟨bs, n * 5 + 2, none⟩ = some (.int .i64 (g1 : Nat)) := cell_later HB.out _ _ _ (xs 2 _ rfl)
        have bs_3 : wr.cell? ⟨bs, n * 5 + 3, none⟩ = some (.int .i64 (z1 : Nat)) := cell_later HB.out _ _ _ (xs 3 _ rfl)
        have bs_4 : wr.cell? ⟨bs, n * 5 + 4, none⟩ = some (.string y1) := cell_later HB.out _ _ _ (xs 4 _ rfl)
        have bt_0 : wr.cell? ⟨bt, n * 5, none⟩ = some (.int .i64 (i1 : Nat)) := cell_later HB.out _ _ _ (xt 0 _ rfl)
        have bt_1 : wr.cell? ⟨bt, n * 5 + 1, none⟩ = some (.int .i64 (s1 : Nat)) := cell_later HB.out _ _ _ (xt 1 _ rfl)
        have bt_2 : wr.cell? ⟨bt, n * 5 + 2, none⟩ = some (.int .i64 (g1 : Nat)) := cell_later HB.out _ _ _ (xt 2 _ rfl)
        have bt_3 : wr.cell? ⟨bt, n * 5 + 3, none⟩ = some (.int .i64 (z1 : Nat)) := cell_later HB.out _ _ _ (xt 3 _ rfl)
        have bt_4 : wr.cell? ⟨bt, n * 5 + 4, none⟩ = some (.string y1) := cell_later HB.out _ _ _ (xt 4 _ rfl)
        have HLW : Hid (CrLaw ⟨i1, s1, g1, z1, y1⟩ ⟨i2, s2, g2, z2, y2⟩ ⟨i3, s3, g3, z3, y3⟩ ∧ Fl.Ok ⟨i1, s1, g1, z1, y1⟩ ∧ Fl.Ok ⟨i2, s2, g2, z2, y2⟩) := ⟨hlaw, hok1, hok2⟩
        have HXW : Hid (∀ k v, (Fl.cells ⟨i1, s1, g1, z1, y1⟩)[k]? = some v → z18.cell? ⟨bw, n * 5 + k, none⟩ = some v) := xw
        have HXI : Hid (∀ k v, (Fl.cells ⟨i2, s2, g2, z2, y2⟩)[k]? = some v → z18.cell? ⟨bi, n * 5 + k, none⟩ = some v) := xi
        clear rrw rrl rri rra rrs rrt xw xl xi xa xs xt hf1 hf2 hf3 hlaw hok1 hok2
        go_upto_region 35 with fail
        go_cut [178] from 115 to 213 (fun v wx => v = .bool false ∧ Hid (Below z18.heap.size z18 wx))
        case first =>
          as_aux_lemma =>
          refine reg35 (new := #[Value.slice a N c, Value.slice ka0 nk0 kc0, undef, undef, u4, Value.pointer (some { block := B, off := 0 }), Value.int IntKind.i64 ↑i, Value.int IntKind.i64 ↑j, u8, u9, Value.slice (some { block := bw, off := 0 }) i c10, Value.slice a11 (nmL d).length c11, Value.pointer (some { block := B2, off := 0 }), Value.pointer (some { block := C, off := 0 }), Value.slice (some { block := bl, off := 0 }) i c14, Value.slice (some { block := A, off := 0 }) i i, Value.int IntKind.i64 ↑i, Value.slice (some { block := bi, off := 0 }) i c17, Value.slice (some { block := ba, off := 0 }) i c18, Value.slice (some { block := bs, off := 0 }) i c19, Value.slice (some { block := bt, off := 0 }) i c20, Value.int IntKind.i64 ↑n, u22, u23, Value.bool true, Value.bool false, Value.pointer (some { block := B, off := 0 }), u27, u28, u29, u30, u31, u32, u33, Value.bool false, u35, u36, u37, u38, u39, u40, u41, u42, u43, u44, u45, u46, u47, u48, u49, u50, u51, u52, u53, u54, u55, u56, u57, Value.pointer (some { block := B, off := 0 }), Value.int IntKind.i64 ↑i, Value.slice (some { block := bw, off := 0 }) i c10, Value.pointer (some { block := B, off := 0 }), Value.slice a11 (nmL d).length c11, Value.pointer (some { block := B, off := 0 }), Value.pointer (some { block := B2, off := 0 }), Value.pointer (some { block := B, off := 0 }), Value.pointer (some { block := C, off := 0 }), Value.pointer (some { block := B2, off := 0 }), Value.bool false, Value.bool false, Value.pointer (some { block := C, off := 0 }), Value.bool false, Value.bool false, Value.pointer (some { block := B2, off := 0 }), Value.tuple #[], Value.pointer (some { block := B2, off := 0 }), Value.int IntKind.i64 ↑i, Value.slice (some { block := bl, off := 0 }) i c14, Value.int IntKind.i64 ↑i, Value.slice (some { block := A, off := 0 }) i i, Value.int IntKind.i64 ↑i, Value.int IntKind.i64 ↑i, Value.bool false, u83, u84, u85, u86, u87, Value.pointer (some { block := C, off := 0 }), Value.slice (some { block := A, off := 0 }) i i, Value.tuple #[], Value.pointer (some { block := B, off := 0 }), Value.slice (some { block := z9.heap.size, off := 0 }) 0 0, Value.slice ka0 nk0 kc0, Value.slice v1 nk0 v2, Value.tuple #[], Value.pointer (some { block := B, off := 0 }), Value.int IntKind.i64 ↑i, Value.slice (some { block := bi, off := 0 }) i c17, Value.pointer (some { block := B, off := 0 }), Value.slice (some { block := z12.heap.size, off := 0 }) 0 0, Value.slice ka0 nk0 kc0, Value.slice v3 nk0 v4, Value.tuple #[], Value.pointer (some { block := B, off := 0 }), Value.int IntKind.i64 ↑i, Value.slice (some { block := ba, off := 0 }) i c18, Value.pointer (some { block := C, off := 0 }), Value.int IntKind.i64 ↑i, Value.slice (some { block := bs, off := 0 }) i c19, Value.pointer (some { block := C, off := 0 }), Value.tuple #[], Value.pointer (some { block := C, off := 0 }), Value.int IntKind.i64 ↑i, Value.slice (some { block := bt, off := 0 }) i c20, Value.int IntKind.i64 ↑n, Value.int IntKind.i64 ↑i, Value.bool true, u118, u119, .slice (some ⟨bi, 0, none⟩) i c17, .int .i64 (n : Nat), .pointer (some ⟨bi, n * 5, none⟩), .pointer (some ⟨bi, n * 5 + 4, none⟩), .string y2, .slice (some ⟨bw, 0, none⟩) i c10, .int .i64 (n : Nat), .pointer (some ⟨bw, n * 5, none⟩), .pointer (some ⟨bw, n * 5 + 4, none⟩), .string y1, .bool true, .bool false, .bool false, .slice (some ⟨bl, 0, none⟩) i c14, .int .i64 (n : Nat), .pointer (some ⟨bl, n * 5, none⟩), .pointer (some ⟨bl, n * 5 + 4, none⟩), .string y3, .slice (some ⟨bi, 0, none⟩) i c17, .int .i64 (n : Nat), .pointer (some ⟨bi, n * 5, none⟩), .pointer (some ⟨bi, n * 5 + 4, none⟩), .string y2, .bool true, .bool false, .bool false, .bool false, .slice (some ⟨ba, 0, none⟩) i c18, .int .i64 (n : Nat), .pointer (some ⟨ba, n * 5, none⟩), .agg #[.int .i64 (i2 : Nat), .int .i64 (s2 : Nat), .int .i64 (g2 : Nat), .int .i64 (z2 : Nat), .string y2], .slice (some ⟨bi, 0, none⟩) i c17, .int .i64 (n : Nat), .pointer (some ⟨bi, n * 5, none⟩), .agg #[.int .i64 (i2 : Nat), .int .i64 (s2 : Nat), .int .i64 (g2 : Nat), .int .i64 (z2 : Nat), .string y2], .bool false, .bool false, .bool false, .slice (some ⟨bs, 0, none⟩) i c19, .int .i64 (n : Nat), .pointer (some ⟨bs, n * 5, none⟩), .agg #[.int .i64 (i1 : Nat), .int .i64 (s1 : Nat), .int .i64 (g1 : Nat), .int .i64 (z1 : Nat), .string y1], .slice (some ⟨bw, 0, none⟩) i c10, .int .i64 (n : Nat), .pointer (some ⟨bw, n * 5, none⟩), .agg #[.int .i64 (i1 : Nat), .int .i64 (s1 : Nat), .int .i64 (g1 : Nat), .int .i64 (z1 : Nat), .string y1], .bool false, .bool false, .bool false, .slice (some ⟨bt, 0, none⟩) i c20, .int .i64 (n : Nat), .pointer (some ⟨bt, n * 5, none⟩), .agg #[.int .i64 (i1 : Nat), .int .i64 (s1 : Nat), .int .i64 (g1 : Nat), .int .i64 (z1 : Nat), .string y1], .slice (some ⟨bw, 0, none⟩) i c10, .int .i64 (n : Nat), .pointer (some ⟨bw, n * 5, none⟩), .agg #[.int .i64 (i1 : Nat), .int .i64 (s1 : Nat), .int .i64 (g1 : Nat), .int .i64 (z1 : Nat), .string y1], .bool false, .bool false, u179, u180, u181, u182, u183, u184, u185, u186, u187, u188, u189, u190, u191, u192, u193, u194, u195, u196, u197, u198, u199, u200, u201, u202, u203, u204, u205, u206, u207, u208, u209, u210, u211, u212, u213, undef, undef, undef, undef]) n i bw c10 bl c14 bi c17 ba c18 bs c19 bt c20 i1 s1 g1 z1 i2 s2 g2 z2 y1 y2 y3 (by kernel_rfl) rfl rfl rfl rfl rfl rfl rfl rfl l1 bw_0 bw_1 bw_2 bw_3 bw_4 bl_4 bi_0 bi_1 bi_2 bi_3 bi_4 ba_0 ba_1 ba_2 ba_3 ba_4 bs_0 bs_1 bs_2 bs_3 bs_4 bt_0 bt_1 bt_2 bt_3 bt_4 (fun u => begins_true HLW.out.1.front u) (fun u => begins_true HLW.out.1.syn u) (by kernel_rfl) ?_
          intro w9 k9
          have HB9 : Hid (Below z18.heap.size z18 w9) := below_two HB.out k9
          clear k9
          dsimp only
          go_wp2_with fail
          go_meet
          case rel => exact ⟨rfl, HB9⟩
        case rest =>
        obtain ⟨rfl, HBc⟩ := hcut
        clear HB bw_0 bw_1 bw_2 bw_3 bw_4 bl_4 bi_0 bi_1 bi_2 bi_3 bi_4 ba_0 ba_1 ba_2 ba_3 ba_4 bs_0 bs_1 bs_2 bs_3 bs_4 bt_0 bt_1 bt_2 bt_3 bt_4
        obtain ⟨one, ho1, ho2⟩ : ∃ one : Nat, g2 = g1 + one ∧ ((y2 = y1 ∧ one = 0) ∨ (y2 ≠ y1 ∧ one = 1)) := by
          rcases HLW.out.1.g with ⟨x, y⟩ | ⟨x, y⟩
          · exact ⟨0, y, .inl ⟨x, rfl⟩⟩
          · exact ⟨1, y, .inr ⟨x, rfl⟩⟩
        have HON : Hid (g2 = g1 + one ∧ i2 = i1 ∧ s2 = s1 ∧ z2 = y2.size ∧ one ≤ 1) := ⟨ho1, HLW.out.1.i, HLW.out.1.s, HLW.out.1.z, by omega⟩
        have bw_4 : wc.cell? ⟨bw, n * 5 + 4, none⟩ = some (.string y1) := cell_later HBc.out _ _ _ (HXW.out 4 _ rfl)
        have bi_4 : wc.cell? ⟨bi, n * 5 + 4, none⟩ = some (.string y2) := cell_later HBc.out _ _ _ (HXI.out 4 _ rfl)
        clear ho1
        go_upto_region 38 with fail
        go_cut [189] from 115 to 213 (fun v wx => v = .bool (decide (one = 1)) ∧ Hid (Below z18.heap.size z18 wx))
        case first =>
          rcases ho2 with ⟨ey, eo⟩ | ⟨ny, eo⟩
          · subst ey eo
            go_region
            go_wp2_with fail
            go_meet
            case rel => exact ⟨rfl, below_drew' HBc⟩
          · have t1 : (y2.toList == y1.toList) = false := by rw [beq_bytes, decide_eq_false ny]
            subst eo
            clear ny
            go_region
            go_wp2_with fail
            go_meet
            case rel => exact ⟨rfl, below_drew' HBc⟩
        case rest =>
        obtain ⟨rfl, HBc2⟩ := hcut
        clear bw_4 bi_4 HBc
        go_upto_if 189 with fail
        go_cut [22] from 115 to 213 (fun v wx => v = .int .i64 (one : Nat) ∧ wx = wc)
        case first =>
          rcases ho2 with ⟨ey, eo⟩ | ⟨ny, eo⟩
          · subst ey eo
            go_wp2_with fail
            go_meet
            case rel => exact ⟨rfl, rfl⟩
          · subst eo
            clear ny
            go_wp2_with fail
            go_meet
            case rel => exact ⟨rfl, rfl⟩
        case rest =>
        obtain ⟨rfl, hwc⟩ := hcut
        subst hwc
        have HBd := HBc2
        clear ho2 HBc2
        have bw_0 : wc.cell? ⟨bw, n * 5, none⟩ = some (.int .i64 (i1 : Nat)) := cell_later HBd.out _ _ _ (HXW.out 0 _ rfl)
        have bw_1 : wc.cell? ⟨bw, n * 5 + 1, none⟩ = some (.int .i64 (s1 : Nat)) := cell_later HBd.out _ _ _ (HXW.out 1 _ rfl)
        have bw_2 : wc.cell? ⟨bw, n * 5 + 2, none⟩ = some (.int .i64 (g1 : Nat)) := cell_later HBd.out _ _ _ (HXW.out 2 _ rfl)
        have bw_3 : wc.cell? ⟨bw, n * 5 + 3, none⟩ = some (.int .i64 (z1 : Nat)) := cell_later HBd.out _ _ _ (HXW.out 3 _ rfl)
        have bw_4 : wc.cell? ⟨bw, n * 5 + 4, none⟩ = some (.string y1) := cell_later HBd.out _ _ _ (HXW.out 4 _ rfl)
        have bi_0 : wc.cell? ⟨bi, n * 5, none⟩ = some (.int .i64 (i2 : Nat)) := cell_later HBd.out _ _ _ (HXI.out 0 _ rfl)
        have bi_1 : wc.cell? ⟨bi, n * 5 + 1, none⟩ = some (.int .i64 (s2 : Nat)) := cell_later HBd.out _ _ _ (HXI.out 1 _ rfl)
        have bi_2 : wc.cell? ⟨bi, n * 5 + 2, none⟩ = some (.int .i64 (g2 : Nat)) := cell_later HBd.out _ _ _ (HXI.out 2 _ rfl)
        have bi_3 : wc.cell? ⟨bi, n * 5 + 3, none⟩ = some (.int .i64 (z2 : Nat)) := cell_later HBd.out _ _ _ (HXI.out 3 _ rfl)
        have bi_4 : wc.cell? ⟨bi, n * 5 + 4, none⟩ = some (.string y2) := cell_later HBd.out _ _ _ (HXI.out 4 _ rfl)
        have hg1 : g1 ≤ 2000000 := HLW.out.2.1.g
        have hone : one ≤ 1 := HON.out.2.2.2.2
        obtain ⟨wd, hwd⟩ : ∃ wd, wc.alloc (.cells #[.int .i64 (i1 : Nat), .int .i64 (s1 : Nat), .int .i64 (g1 : Nat), .int .i64 (z1 : Nat)] 32) = wd := ⟨_, rfl⟩
        have HWD' : Hid (wc.alloc (.cells #[.int .i64 (i1 : Nat), .int .i64 (s1 : Nat), .int .i64 (g1 : Nat), .int .i64 (z1 : Nat)] 32) = wd) := hwd
        obtain ⟨A9, hA9⟩ : ∃ A9, wc.heap.size = A9 := ⟨_, rfl⟩
        have HA9 : Hid (wc.heap.size = A9) := hA9
        have hs : StatB wd A9 (.int .i64 (i1 : Nat)) (.int .i64 (s1 : Nat)) (.int .i64 (g1 : Nat)) (.int .i64 (z1 : Nat)) := by rw [← hwd, ← hA9]; exact heap_alloc_new wc _
        have HSd : Hid (StatB wd A9 (.int .i64 (i1 : Nat)) (.int .i64 (s1 : Nat)) (.int .i64 (g1 : Nat)) (.int .i64 (z1 : Nat))) := hs
        have HBe : Hid (Below z18.heap.size z18 wd ∧ z18.heap.size ≤ A9) := ⟨below_two HBd.out (by rw [← hwd]; exact (Below.refl _ _).alloc (Nat.le_refl _) _), by rw [← hA9]; exact HBd.out.size⟩
        clear hwd hA9 hs
        go_upto_region 41 with fail
        rw [HWD'.out, HA9.out]
        clear HWD' HA9 HBd bw_0 bw_1 bw_2 bw_3 bw_4 bi_0 bi_1 bi_2 bi_3 bi_4
        have bi_4 : wd.cell? ⟨bi, n * 5 + 4, none⟩ = some (.string y2) := cell_later HBe.out.1 _ _ _ (HXI.out 4 _ rfl)
        obtain ⟨m0, m1, m2, m3, mz⟩ := HSd.out.cells
        obtain ⟨we, hwe⟩ : ∃ we, wd.setCell ⟨A9, 3, none⟩ (.int .i64 (y2.size : Nat)) = we := ⟨_, rfl⟩
        have HWE : Hid (wd.setCell ⟨A9, 3, none⟩ (.int .i64 (y2.size : Nat)) = we) := hwe
        have HSe : Hid (StatB we A9 (.int .i64 (i1 : Nat)) (.int .i64 (s1 : Nat)) (.int .i64 (g1 : Nat)) (.int .i64 (y2.size : Nat))) := by have x := HSd.out.put3 (.int .i64 (y2.size : Nat)); rw [hwe] at x; exact x
        have HBf : Hid (Below z18.heap.size z18 we ∧ z18.heap.size ≤ A9) := ⟨by rw [← hwe]; exact below_put HBe.out.1 HBe.out.2 _ _, HBe.out.2⟩
        clear hwe
        go_upto_region 42 with fail
        rw [HWE.out]
        clear HWE HBe HSd bi_4 m0 m1 m2 m3 mz
        obtain ⟨m0, m1, m2, m3, mz⟩ := HSe.out.cells
        obtain ⟨wf, hwf⟩ : ∃ wf, we.setCell ⟨A9, 2, none⟩ (.int .i64 ((g1 : Int) + (one : Int))) = wf := ⟨_, rfl⟩
        have HWF : Hid (we.setCell ⟨A9, 2, none⟩ (.int .i64 ((g1 : Int) + (one : Int))) = wf) := hwf
        have HSf : Hid (StatB wf A9 (.int .i64 (i1 : Nat)) (.int .i64 (s1 : Nat)) (.int .i64 ((g1 : Int) + (one : Int))) (.int .i64 (y2.size : Nat))) := by have x := HSe.out.put2 (.int .i64 ((g1 : Int) + (one : Int))); rw [hwf] at x; exact x
        have HBg : Hid (Below z18.heap.size z18 wf) := by rw [← hwf]; exact below_put HBf.out.1 HBf.out.2 _ _
        clear hwf
        go_upto_region 43 with fail
        rw [HWF.out]
        clear HWF HBf HSe m0 m1 m2 m3 mz
        obtain ⟨m0, m1, m2, m3, mz⟩ := HSf.out.cells
        have bi_0 : wf.cell? ⟨bi, n * 5, none⟩ = some (.int .i64 (i1 : Nat)) := cell_later HBg.out _ _ _ (by rw [← HON.out.2.1]; exact HXI.out 0 _ rfl)
        have bi_1 : wf.cell? ⟨bi, n * 5 + 1, none⟩ = some (.int .i64 (s1 : Nat)) := cell_later HBg.out _ _ _ (by rw [← HON.out.2.2.1]; exact HXI.out 1 _ rfl)
        have bi_2 : wf.cell? ⟨bi, n * 5 + 2, none⟩ = some (.int .i64 ((g1 : Int) + (one : Int))) := cell_later HBg.out _ _ _ (by rw [← Int.natCast_add, ← HON.out.1]; exact HXI.out 2 _ rfl)
        have bi_3 : wf.cell? ⟨bi, n * 5 + 3, none⟩ = some (.int .i64 (y2.size : Nat)) := cell_later HBg.out _ _ _ (by rw [← HON.out.2.2.2.1]; exact HXI.out 3 _ rfl)
        go_region
        go_wp2_with fail
        go_roundw
        case rel => exact ⟨n + 1, by go_num, by omega, below_drew' HBg⟩
        case measure => simp [Go.RowKit.intOf]; omega
      · have l1 : ¬ (n : Int) < (i : Int) := by omega
        have HX : Hid (Cr2 w P14 Q17 R18 B C d1 f9 (j + 1 + 1 + 1 + 1) Rw18 wr) := HX18.out.later HB.out
        have HC : Hid (Calls Try.prog 11 #[.pointer (some ⟨B, 0, none⟩)] wr _) := names_any HX.out.one
        clear HX18 HB
        go_wp2_with fail
        refine HC.out.mono ?_
        rintro e z20 ⟨V, rfl, rv, k20⟩
        have hnm : nmL d1 = nmL d := by rw [← HD1.out]; exact crash_names HWD.out keep
        rw [hnm] at rv
        have HX2 : Hid (Cr2 w P14 Q17 R18 B C d1 f9 (j + 1 + 1 + 1 + 1) Rw18 z20) := HX.out.later k20
        obtain ⟨_, rn⟩ := (HW4.out _ (HW6.out _ (HW12.out _ (HW15.out _ (HW16.out _ (HW18.out _ HX2.out.rw).1).1).1).1).1).2
        have hln : (nmL d).length ≤ 2000000 := by
          have x := keysUp_len d
          have y := HH.out
          unfold nmL
          rw [List.length_mergeSort, List.length_map]
          omega
        have HC2 : Hid (Calls Try.prog 15 #[.slice a11 (nmL d).length c11, V] z20 _) := sameTexts_any (owns_lat rn) (owns_lat rv) hln
        clear HC rv rn k20 HX
        go_wp2_with fail
        refine HC2.out.mono ?_
        rintro e z21 ⟨rfl, k21⟩
        have HE : Hid (Below w.heap.size w z21) := below_two HX2.out.lo k21
        clear HC2 k21
        go_wp2_with fail
        go_ret
        exact ⟨rfl, HE.out⟩
end Go.Proofs.Ytjlfhaehdllmcaa
