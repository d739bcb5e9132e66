/- heronlaw16.fed: the walk. -/
import Derived.Test.YtjmjhmohholmbaaG16
namespace Go.Proofs.Ytjmjhmohholmbaa
open Go.RowKit Go.Maps Ln
attribute [local go_sem ↓] Go.wp_at_zero Go.wp_at_succ

theorem Pc.later {w u u2 : World} {V1 Y : Value} {g : Nat} {l : List UInt8} (h : Pc w V1 Y g l u) (hb : Below u.heap.size u u2) : Pc w V1 Y g l u2 := by
  obtain ⟨o, n, c, e⟩ := h.f
  exact ⟨h.t.keep (hb.block g h.t.lt), h.n, h.b, h.a.blk e (hb.block g h.t.lt), h.f⟩
def lenV : Value → Nat
  | .slice _ n _ => n
  | _ => 0
def FedPost (w : World) (B : Nat) (V : Value) (m : Mk) (bs : List UInt8) (e : Ending) (w' : World) : Prop :=
  ∃ VL L m' V', e = .returned (.tuple #[VL, .bool true]) ∧ FedI w B V m bs bs.length L L m' V' VL w'
theorem cut_form {w : World} {X : Option Addr} {r c : Nat} {xs : List Value} (h : LAt w (.slice X r c) xs) (h1 : r = xs.length) (hr : 0 < r) : ∃ b o, X = some ⟨b, o, none⟩ := by
  obtain ⟨a, c', e, h2, h3, h4⟩ := h
  cases e
  rcases h4 with h4 | ⟨b, o, e, _⟩
  · rw [h4] at hr; simp at hr
  · exact ⟨b, o, e⟩
/-- s[n:] -/
theorem LAt.from {w : World} {b o r c n : Nat} {xs : List Value} (h : LAt w (.slice (some ⟨b, o, none⟩) r c) xs) (hn : n ≤ r) : LAt w (.slice (if c = n then some ⟨b, o, none⟩ else some ⟨b, o + n, none⟩) (r - n) (c - n)) (xs.drop n) := by
  have h0 := h
  obtain ⟨a, c', e, h2, h3, h4⟩ := h
  by_cases hc : c = n
  · rw [if_pos hc]
    cases e
    have : xs.drop n = [] := List.drop_eq_nil_of_le (by omega)
    rw [this]
    exact ⟨_, _, by rw [show xs.length - n = ([] : List Value).length by simp; omega], by simp, by omega, .inl rfl⟩
  · rw [if_neg hc]
    exact h0.drop rfl hn
theorem pc_new {w wr w' : World} {B : Nat} {V : Value} {m : Mk} {bs l : List UInt8} {p : Nat} {L : List (List UInt8)} {m1 : Mk} {V1 VL : Value} {ob : Obj} {g n c k : Nat} (h : FedI w B V m bs p L L m1 V1 VL wr) (hb : Below wr.heap.size wr (wr.alloc ob)) (hg : (wr.alloc ob).grownBy w' (Value.slice (some ⟨wr.heap.size, 0, none⟩) 0 0).ownBlock) (ho : w'.ownsRow wr.heap.size 5 1 (.slice (some ⟨g, 0, none⟩) n c) k (uv l)) :
    Pc w V1 (.slice (some ⟨g, 0, none⟩) n c) g l w' ∧ FedI w B V m bs p L L m1 V1 VL w' := by
  have hw : Below wr.heap.size wr w' := hb.grown hg hb.size (fun k hk => by
    have : wr.heap.size = k := Option.some.inj hk
    omega)
  obtain ⟨t1, t2, t3⟩ := row_ty ho (b := g) rfl
  refine ⟨⟨t1, fun e => ?_, Nat.le_trans h.fr.size t3, owns_lat ho, ⟨0, n, c, rfl⟩⟩, h.later hw⟩
  have := (h.k.o.ty e).2
  omega
set_option maxRecDepth 8000 in
set_option maxHeartbeats 4000000 in
theorem fed_fn {w : World} {B N M y yc cc : Nat} {V : Value} {ya ca : Option Addr} {m : Mk} {bs : List UInt8} {cs : List Int} (h : MkAt w B V m) (hN : bs.length = N) (hM : cs.length = M) (hy : m.most = y) (hy2 : y ≤ 4096)
    (hb : ∀ u, Fm B V w u → LAt u (.slice ya N yc) (uv bs)) (hc : ∀ u, Fm B V w u → LAt u (.slice ca M cc) (ints cs)) (hN2 : N ≤ 1048576) (hM2 : M ≤ 1048576) (hu : m.u.length ≤ 1099511627776) (hg : m.long ≤ 1048576) :
    Calls Try.prog 9 #[.pointer (some ⟨B, 0, none⟩), .slice ya N yc, .slice ca M cc, .int .i64 (y : Nat)] w (FedPost w B V m bs) := by
  have H0 : Hid (FedI w B V m bs 0 [] [] m V (.slice none 0 0) w) := ⟨by rw [List.take_zero]; rfl, rfl, h, fun _ hb => .inl hb, FrP.refl _ w, owns_nil _ _ 9⟩
  have HA : Hid (bs.length = N ∧ cs.length = M ∧ m.most = y ∧ m.u.length ≤ 1099511627776 ∧ m.long ≤ 1048576) := ⟨hN, hM, hy, hu, hg⟩
  have HB : Hid (∀ u, Fm B V w u → LAt u (.slice ya N yc) (uv bs)) := hb
  have HC : Hid (∀ u, Fm B V w u → LAt u (.slice ca M cc) (ints cs)) := hc
  clear h hN hM hy hb hc hu hg
  go_enter Try.func9, Try.ntmps9
  go_wp2
  go_loopw [1, 10, 11] (fun s l i u => ∃ (p r k c1 : Nat) (X : Option Addr) (L : List (List UInt8)) (m1 : Mk) (V1 : Value), s = .slice X r c1 ∧ i = .int .i64 (k : Nat) ∧ k ≤ p ∧ p + r = N ∧ Hid (FedI w B V m bs p L L m1 V1 l u ∧ ∀ u', Fm B V w u' → LAt u' (.slice X r c1) (uv (bs.drop p)))) (fun s _ _ _ => lenV s)
  case atStart => exact ⟨0, N, 0, yc, ya, [], m, V, rfl, rfl, Nat.le_refl _, by omega, H0.out, HB.out⟩
  case round =>
  obtain ⟨p, r, k, c1, X, L, m1, V1, rfl, rfl, hkp, hpr, HI⟩ := hrel
  clear H0
  obtain ⟨l1, l2, hl⟩ := own_form HI.out.1.l
  subst hl
  by_cases hr : 0 < r
  · have hr' : (0 : Int) < (r : Int) := by omega
    obtain ⟨xb, xo, rfl⟩ := cut_form (HI.out.2 _ HI.out.1.fr) (by rw [uv_len, List.length_drop, HA.out.1]; omega) hr
    go_upto_region 6 with fail
    have hkb : (k : Int) ≤ 1048576 := by omega
    have hk0 : (0 : Int) ≤ (k : Int) := by omega
    go_cut [36] from 17 to 110 (fun v wx => ∃ t : Bool, v = .bool t ∧ (t = true → Hid (0 < M ∧ ∃ z : Int, cs[k % M]? = some z ∧ 0 < z)) ∧ wx = wr)
    case first =>
      rcases Nat.eq_zero_or_pos M with hm | hm
      · subst hm
        go_wp2_with fail
        go_meet
        case rel => exact ⟨false, rfl, (fun h => by cases h), rfl⟩
      · have hm' : (0 : Int) < (M : Int) := by omega
        obtain ⟨z, hz⟩ : ∃ z, cs[k % M]? = some z := ⟨_, List.getElem?_eq_getElem (by rw [HA.out.2.1]; exact Nat.mod_lt _ hm)⟩
        obtain ⟨cb, co, rfl⟩ := cut_form (HC.out _ HI.out.1.fr) (by unfold ints; rw [List.length_map, HA.out.2.1]) hm
        have hcz : wr.cell? ⟨cb, co + k % M, none⟩ = some (.int .i64 z) := by
          obtain ⟨_, _, e, _, _, hx⟩ := (HC.out _ HI.out.1.fr).open
          obtain ⟨b', o', e2, hx⟩ := hx (k % M) (.int .i64 z) (by unfold ints; rw [List.getElem?_map, hz]; rfl)
          cases e
          cases e2
          exact hx
        have hq1 : (0 : Int) ≤ (k : Int) % (M : Int) := by omega
        have hq2 : (k : Int) % (M : Int) < (M : Int) := Int.emod_lt_of_pos _ hm'
        have HZ : Hid (cs[k % M]? = some z) := hz
        clear hz
        go_wp2_with fail
        all_goals
          go_meet
          case rel => exact ⟨decide (0 < z), rfl, (fun h => ⟨hm, z, HZ.out, of_decide_eq_true h⟩), rfl⟩
    case rest =>
    obtain ⟨t36, rfl, ht, hwc⟩ := hcut
    rw [hwc]
    clear hwc
    go_upto_if 36 with fail
    go_cut [12] from 17 to 110 (fun v wx => ∃ n : Nat, 0 < n ∧ n ≤ r ∧ v = .int .i64 (n : Nat) ∧ wx = wr)
    case first =>
      cases t36 with
      | false =>
        go_wp2_with fail
        go_meet
        case rel => exact ⟨r, hr, Nat.le_refl _, rfl, rfl⟩
      | true =>
        obtain ⟨hm, z, hz, hz0⟩ := (ht rfl).out
        have hm' : (0 : Int) < (M : Int) := by omega
        obtain ⟨cb, co, rfl⟩ := cut_form (HC.out _ HI.out.1.fr) (by unfold ints; rw [List.length_map, HA.out.2.1]) hm
        have hcz : wr.cell? ⟨cb, co + k % M, none⟩ = some (.int .i64 z) := by
          obtain ⟨_, _, e, _, _, hx⟩ := (HC.out _ HI.out.1.fr).open
          obtain ⟨b', o', e2, hx⟩ := hx (k % M) (.int .i64 z) (by unfold ints; rw [List.getElem?_map, hz]; rfl)
          cases e
          cases e2
          exact hx
        have hq1 : (0 : Int) ≤ (k : Int) % (M : Int) := by omega
        have hq2 : (k : Int) % (M : Int) < (M : Int) := Int.emod_lt_of_pos _ hm'
        obtain ⟨Z, rfl⟩ : ∃ Z : Nat, z = (Z : Int) := ⟨z.toNat, by omega⟩
        clear hz ht
        by_cases hlz : r ≤ Z
        · have h1 : (r : Int) ≤ (Z : Int) := by omega
          go_wp2_with fail
          go_meet
          case rel => exact ⟨r, hr, Nat.le_refl _, by first | rfl | go_num, rfl⟩
        · have h1 : ¬ (r : Int) ≤ (Z : Int) := by omega
          go_wp2_with fail
          go_meet
          case rel => exact ⟨Z, by omega, by omega, by first | rfl | go_num, rfl⟩
    case rest =>
    obtain ⟨n, hn0, hnr, rfl, hwc⟩ := hcut
    rw [hwc]
    clear hwc ht
    have hi1 : (0 : Int) ≤ (n : Int) := by omega
    have hi2 : (n : Int) ≤ (r : Int) := by omega
    have hrc : r ≤ c1 := by
      obtain ⟨_, _, e, hx, _⟩ := (HI.out.2 _ HI.out.1.fr).open
      cases e
      simp only [uv_len, List.length_drop] at hx
      have := HA.out.1
      omega
    have hrc' : (r : Int) ≤ (c1 : Int) := by omega
    have hcm : c1 ≤ 9223372036854775807 := by
      obtain ⟨_, _, e, _, hx, _⟩ := (HI.out.2 _ HI.out.1.fr).open
      cases e
      exact hx
    obtain ⟨w1, hw1⟩ : ∃ w1, wr.alloc (.cells #[] 5) = w1 := ⟨_, rfl⟩
    have HW1 : Hid (wr.alloc (.cells #[] 5) = w1) := hw1
    have k1 : Below wr.heap.size wr w1 := by rw [← hw1]; exact (Below.refl _ _).alloc (Nat.le_refl _) _
    have HE0 : Hid (w1.ownsRow wr.heap.size 5 1 (.slice (some ⟨wr.heap.size, 0, none⟩) 0 0) 0 []) := by rw [← hw1]; exact World.ownsRow_lit wr #[] 0 (Nat.le_refl _) (Nat.zero_le _) (by simp)
    have HF1 : Hid (Fm B V w w1) := HI.out.1.fr.below k1
    have HP : Hid (LAt w1 (.slice (some ⟨xb, xo, none⟩) n c1) ((uv (bs.drop p)).take n)) := (HI.out.2 _ HF1.out).take rfl hnr
    have HTL : Hid (((uv (bs.drop p)).take n).length = n) := by show _ = _; rw [List.length_take, uv_len, List.length_drop, HA.out.1]; omega
    have HK1 : Hid (Below wr.heap.size wr w1) := k1
    obtain ⟨r2, rfl⟩ : ∃ r2, r = n + r2 := ⟨r - n, by omega⟩
    obtain ⟨X', hif⟩ : ∃ X', (if c1 = n then some (⟨xb, xo, none⟩ : Addr) else some ⟨xb, xo + n, none⟩) = X' := ⟨_, rfl⟩
    have HX : Hid (∀ u', Fm B V w u' → LAt u' (.slice X' r2 (c1 - n)) (uv (bs.drop (p + n)))) := fun u' hu' => by
      have h := (HI.out.2 u' hu').from hnr
      rw [hif, Nat.add_sub_cancel_left, ← uv_drop, List.drop_drop] at h
      exact h
    clear k1
    subst hw1
    clear HW1
    go_wp2_with (refine wpList_append_lat rfl (.tmp 46) (.tmp 49) rfl (.int .u8 0) 1 (by kernel_rfl) infB rfl wr.heap.size _ 0 [] rfl HE0.out _ ((uv (bs.drop p)).take n) rfl HP.out (fun u hu => uv_one _ u (List.mem_of_mem_take hu)) (by rw [HTL.out]; unfold maxLen; omega) (by rw [HTL.out]; omega) HK1.out.size ?_; intro V' w' ho' hgr hnl hh; rw [HTL.out, Nat.zero_add, List.nil_append, ← uv_take] at ho'; obtain ⟨g, pc, rfl⟩ : ∃ g pc, V' = .slice (some ⟨g, 0, none⟩) n pc := (by
      rcases ho'.2 with ⟨rfl, h0⟩ | ⟨g, cap, cur, rfl, _⟩
      · omega
      · exact ⟨g, cap, rfl⟩); have HPC : Hid (Pc w V1 (.slice (some ⟨g, 0, none⟩) n pc) g ((bs.drop p).take n) w' ∧ FedI w B V m bs p L L m1 V1 (.slice l1 L.length l2) w') := pc_new HI.out.1 HK1.out hgr ho'; clear hnl ho' hgr hh)
    have HR2 : Hid (p + n + r2 = N ∧ k ≤ p) := ⟨by omega, hkp⟩
    clear HI HE0 HP HTL HK1 HF1 hcm hrc hrc' hi1 hi2 hr hr' hkb hk0
    go_loopw [10, 13] (fun l s u => ∃ (q t c2 o2 : Nat) (L2 : List (List UInt8)) (m2 : Mk) (V2 : Value), s = .slice (some ⟨g, o2, none⟩) t c2 ∧ q + t = n ∧ Hid (Pc w V2 (.slice (some ⟨g, o2, none⟩) t c2) g ((bs.drop (p + q)).take t) u ∧ FedI w B V m bs (p + q) L2 L2 m2 V2 l u)) (fun _ s _ => lenV s)
    case atStart => exact ⟨0, n, pc, 0, L, m1, V1, rfl, by omega, HPC.out⟩
    case round =>
    obtain ⟨q, t, c2, o2, L2, m2, V2, rfl, hqt, HI⟩ := hrel
    clear HPC
    obtain ⟨l3, l4, hl⟩ := own_form HI.out.2.l
    subst hl
    by_cases ht : 0 < t
    · have ht' : (0 : Int) < (t : Int) := by omega
      obtain ⟨pb, hpb⟩ : ∃ pb, (bs.drop (p + q)).take t = pb := ⟨_, rfl⟩
      have hpl : pb.length = t := by have h1 := HR2.out.1; have h2 := HA.out.1; rw [← hpb, List.length_take, List.length_drop]; omega
      have hbd := HI.out.2.bounds
      have hy1 := HI.out.2.y
      have HFD : Hid (Calls Try.prog 16 #[.pointer (some ⟨B, 0, none⟩), .slice (some ⟨g, o2, none⟩) t c2] wr _) := feed_fn (b := pb) HI.out.2.k (by rw [← hpb]; exact HI.out.1.a) (by rw [hy1, HA.out.2.2.1]; exact hy2) (by have := HA.out; omega) (by have := HA.out; omega)
      have HST : Hid (∀ u2, MTo B V2 (m2.feed pb) wr u2 → ∃ V3, FedI w B V m bs (p + (q + took pb)) (if m2.whole pb then L2 ++ [m2.text pb] else L2) L2 (m2.feed pb) V3 (.slice l3 L2.length l4) u2 ∧ Pc w V3 (.slice (some ⟨g, o2, none⟩) t c2) g pb u2) := fun u2 hu => by
        rw [← hpb] at hu ⊢
        obtain ⟨V3, a1, a2, a3⟩ := HI.out.2.feed hu
        rw [← Nat.add_assoc]
        exact ⟨V3, a1, HI.out.1.feed HI.out.2.k a3 a2⟩
      obtain ⟨tk, htk⟩ : ∃ tk, took pb = tk := ⟨_, rfl⟩
      have htk1 : 0 < tk := by rw [← htk]; exact took_pos (by omega)
      have htk2 : tk ≤ t := by rw [← htk, ← hpl]; exact took_le pb
      have HTX : Hid ((m2.text pb).length ≤ y ∧ (m2.whole pb = false → m2.text pb = [])) := ⟨by have := Mk.text_le m2 pb; rw [hy1, HA.out.2.2.1] at this; exact this, fun h => Mk.text_no h⟩
      obtain ⟨m3, hm3⟩ : ∃ m3, m2.feed pb = m3 := ⟨_, rfl⟩
      have hy3 : m3.most = y := by rw [← hm3, Mk.feed_most, hy1]; exact HA.out.2.2.1
      have HHD : Hid (m3.held.length ≤ y ∧ m3.held.length ≤ m3.u.length) := by have := m3.held_le; rw [hy3] at this; exact this
      have htc : t ≤ c2 := by
        obtain ⟨_, _, e, hx, _⟩ := HI.out.1.a.open
        obtain ⟨_, e2, e3⟩ := Value.slice.inj e
        omega
      rw [htk] at HFD
      rw [htk, hm3] at HST
      rw [hm3] at HFD
      obtain ⟨tx, htx⟩ : ∃ tx, m2.text pb = tx := ⟨_, rfl⟩
      rw [htx] at HFD HST HTX
      have HLL : Hid (L2.length ≤ 1048576 + 1048576) := by have := HA.out; show _ ≤ _; omega
      have HPB : Hid ((bs.drop (p + q)).take t = pb ∧ pb.length = t ∧ q + t = n) := ⟨hpb, hpl, hqt⟩
      have k1 : (tk : Int) ≤ (t : Int) := by omega
      have k2 : ¬ (tk : Int) < 1 := by omega
      have k3 : ¬ (t : Int) < (tk : Int) := by omega
      have k4 : (t : Int) ≤ (c2 : Int) := by omega
      have k5 : (0 : Int) ≤ (tk : Int) := by omega
      obtain ⟨t2, rfl⟩ : ∃ t2, t = tk + t2 := ⟨t - tk, by omega⟩
      obtain ⟨o3, hif3⟩ : ∃ o3, (if c2 = tk then some (⟨g, o2, none⟩ : Addr) else some ⟨g, o2 + tk, none⟩) = some ⟨g, o3, none⟩ := by
        by_cases e : c2 = tk
        · exact ⟨o2, if_pos e⟩
        · exact ⟨o2 + tk, if_neg e⟩
      clear hpl hbd hy1 hm3 htx htk HI hpb hy3 hqt
      cases hwh : m2.whole pb with
      | false =>
        have e0 : tx = [] := HTX.out.2 hwh
        subst e0
        rw [hwh] at HFD HST
        clear hwh HTX
        go_wp2_with fail
        refine HFD.out.mono ?_
        rintro e w3 ⟨rfl, hu⟩
        obtain ⟨V3, hI3, hP3⟩ := HST.out w3 hu
        rw [if_neg (by decide)] at hI3
        have HI3 : Hid (FedI w B V m bs (p + (q + tk)) L2 L2 m3 V3 (.slice l3 L2.length l4) w3 ∧ Pc w V3 (.slice (some ⟨g, o2, none⟩) (tk + t2) c2) g pb w3) := ⟨hI3, hP3⟩
        have HHF : Hid (Calls Try.prog 12 #[.pointer (some ⟨B, 0, none⟩)] w3 _) := held_fn hI3.k.b hI3.k.o
        have HBG : Hid (Calls Try.prog 11 #[.pointer (some ⟨B, 0, none⟩)] w3 _) := begun_fn hI3.k.b
        obtain ⟨hl, hhl⟩ : ∃ hl, m3.held.length = hl := ⟨_, rfl⟩
        obtain ⟨ul, hul⟩ : ∃ ul, m3.u.length = ul := ⟨_, rfl⟩
        rw [hhl] at HHF HHD
        rw [hul] at HBG HHD
        have k6 : ¬ (y : Int) < (hl : Int) := by have := HHD.out.1; omega
        have k7 : ¬ (ul : Int) < (hl : Int) := by have := HHD.out.2; omega
        have k8 : ¬ (y : Int) < 0 := by omega
        clear HFD HST hu hI3 hP3 hhl hul HHD
        go_wp2_with fail
        refine HHF.out.mono ?_
        rintro e w4 ⟨rfl, hwx⟩
        rw [hwx]
        clear hwx
        go_wp2_with fail
        refine HHF.out.mono ?_
        rintro e w4 ⟨rfl, hwx⟩
        rw [hwx]
        clear hwx
        go_wp2_with fail
        refine HBG.out.mono ?_
        rintro e w4 ⟨rfl, hwx⟩
        rw [hwx]
        clear hwx HBG HHF
        go_wp2
        go_roundw
        case rel => exact ⟨q + tk, t2, c2 - tk, o3, L2, m3, V3, by simp, by have := HPB.out.2.2; omega, by
          refine ⟨?_, HI3.out.1⟩
          have h1 := HI3.out.2
          have h2 := h1.a.from (n := tk) (by omega)
          rw [hif3, Nat.add_sub_cancel_left] at h2
          refine ⟨h1.t, h1.n, h1.b, ?_, ⟨_, _, _, rfl⟩⟩
          have e0 : (bs.drop (p + (q + tk))).take t2 = pb.drop tk := by
            rw [← HPB.out.1, List.drop_take, List.drop_drop, Nat.add_sub_cancel_left, Nat.add_assoc]
          rw [e0, uv_drop]
          exact h2⟩
        case measure => simp [lenV]; omega
      | true =>
        rw [hwh] at HFD HST
        clear hwh
        have hts : (⟨tx.toArray⟩ : ByteArray).size ≤ y := HTX.out.1
        obtain ⟨sz, hsz⟩ : ∃ sz, (⟨tx.toArray⟩ : ByteArray).size = sz := ⟨_, rfl⟩
        rw [hsz] at hts
        have k8 : ¬ (y : Int) < (sz : Int) := by omega
        clear HTX
        go_wp2_with fail
        refine HFD.out.mono ?_
        rintro e w3 ⟨rfl, hu⟩
        obtain ⟨V3, hI3, hP3⟩ := HST.out w3 hu
        rw [if_pos trivial] at hI3
        have HI3 : Hid (FedI w B V m bs (p + (q + tk)) (L2 ++ [tx]) L2 m3 V3 (.slice l3 L2.length l4) w3 ∧ Pc w V3 (.slice (some ⟨g, o2, none⟩) (tk + t2) c2) g pb w3) := ⟨hI3, hP3⟩
        have HHF : Hid (Calls Try.prog 12 #[.pointer (some ⟨B, 0, none⟩)] w3 _) := held_fn hI3.k.b hI3.k.o
        have HBG : Hid (Calls Try.prog 11 #[.pointer (some ⟨B, 0, none⟩)] w3 _) := begun_fn hI3.k.b
        obtain ⟨hl, hhl⟩ : ∃ hl, m3.held.length = hl := ⟨_, rfl⟩
        obtain ⟨ul, hul⟩ : ∃ ul, m3.u.length = ul := ⟨_, rfl⟩
        rw [hhl] at HHF HHD
        rw [hul] at HBG HHD
        have k6 : ¬ (y : Int) < (hl : Int) := by have := HHD.out.1; omega
        have k7 : ¬ (ul : Int) < (hl : Int) := by have := HHD.out.2; omega
        clear HFD HST hu hI3 hP3 hhl hul HHD
        go_wp2_with fail
        refine HHF.out.mono ?_
        rintro e w4 ⟨rfl, hwx⟩
        rw [hwx]
        clear hwx
        go_wp2_with fail
        refine HHF.out.mono ?_
        rintro e w4 ⟨rfl, hwx⟩
        rw [hwx]
        clear hwx
        go_wp2_with fail
        refine HBG.out.mono ?_
        rintro e w4 ⟨rfl, hwx⟩
        rw [hwx]
        clear hwx HBG HHF
        obtain ⟨w5, hw5⟩ : ∃ w5, w3.alloc (.cells #[.string ⟨tx.toArray⟩] 9) = w5 := ⟨_, rfl⟩
        have k9 : Below w3.heap.size w3 w5 := by rw [← hw5]; exact (Below.refl _ _).alloc (Nat.le_refl _) _
        have HI5 : Hid (FedI w B V m bs (p + (q + tk)) (L2 ++ [tx]) L2 m3 V3 (.slice l3 L2.length l4) w5 ∧ Pc w V3 (.slice (some ⟨g, o2, none⟩) (tk + t2) c2) g pb w5 ∧ LAt w5 (.slice (some ⟨w3.heap.size, 0, none⟩) 1 1) [.string ⟨tx.toArray⟩]) := ⟨HI3.out.1.later k9, HI3.out.2.later k9, by rw [← hw5]; exact lat_lit w3 _ _ _⟩
        clear k9
        subst hw5
        go_wp2_with (refine wpList_append_lat rfl (.tmp 104) (.tmp 106) rfl (.string ⟨#[]⟩) 16 (by kernel_rfl) infS rfl w.heap.size _ L2.length (sv L2) rfl HI5.out.1.l _ [.string ⟨tx.toArray⟩] rfl HI5.out.2.2 (fun u hu => by simp at hu; subst hu; rfl) (by have := HLL.out; simp only [List.length_singleton]; unfold maxLen; omega) (by have := HLL.out; simp only [List.length_singleton]; omega) HI5.out.1.fr.size ?_; intro V' w' ho' hgr hnl hh; obtain ⟨v1, v2, rfl⟩ := own_form ho'; have HI6 : Hid (FedI w B V m bs (p + (q + tk)) (L2 ++ [tx]) (L2 ++ [tx]) m3 V3 (.slice v1 (L2.length + 1) v2) w' ∧ Pc w V3 (.slice (some ⟨g, o2, none⟩) (tk + t2) c2) g pb w') := ⟨HI5.out.1.put hgr (by rw [List.length_append, show sv (L2 ++ [tx]) = sv L2 ++ [.string ⟨tx.toArray⟩] by simp [sv]]; exact ho'), HI5.out.2.1.put HI5.out.1.l hgr⟩; clear hnl ho' hgr hh)
        go_roundw
        case rel => exact ⟨q + tk, t2, c2 - tk, o3, L2 ++ [tx], m3, V3, by simp, by have := HPB.out.2.2; omega, by
          refine ⟨?_, HI6.out.1⟩
          have h1 := HI6.out.2
          have h2 := h1.a.from (n := tk) (by omega)
          rw [hif3, Nat.add_sub_cancel_left] at h2
          refine ⟨h1.t, h1.n, h1.b, ?_, ⟨_, _, _, rfl⟩⟩
          have e0 : (bs.drop (p + (q + tk))).take t2 = pb.drop tk := by
            rw [← HPB.out.1, List.drop_take, List.drop_drop, Nat.add_sub_cancel_left, Nat.add_assoc]
          rw [e0, uv_drop]
          exact h2⟩
        case measure => simp [lenV]; omega
    · obtain rfl : t = 0 := by omega
      obtain rfl : q = n := by omega
      go_wp2
      go_roundw
      case rel => exact ⟨p + q, r2, k + 1, c1 - q, X', L2, m2, V2, rfl, by go_num, by have := HR2.out.2; omega, by have := HR2.out.1; omega, HI.out.2, HX.out⟩
      case measure => simp [lenV]; omega
  · obtain rfl : r = 0 := by omega
    have HE : Hid (FedPost w B V m bs (.returned (.tuple #[.slice l1 L.length l2, .bool true])) wr) := ⟨_, L, m1, V1, rfl, by
      have e : p = bs.length := by have := HA.out.1; omega
      rw [← e]; exact HI.out.1⟩
    go_wp2
    refine bodyPost_ret (v := .tuple #[.slice l1 L.length l2, .bool true]) (by simp [results, Try.results9, go_sem]) rfl HE.out
end Go.Proofs.Ytjmjhmohholmbaa
