/- LinesDrops: the walk. -/
import Derived.Test.YtjmjhmohholmbaaG18
namespace Go.Proofs.Ytjmjhmohholmbaa
open Go.RowKit Go.Maps Ln
attribute [local go_sem ↓] Go.wp_at_zero Go.wp_at_succ

theorem most_of (z : Int) : ∃ Y : Nat, (IntKind.u64.wrap z).tmod 4097 = (Y : Int) ∧ Y ≤ 4096 := by
  have h0 : 0 ≤ IntKind.u64.wrap z := by
    simp only [IntKind.wrap, IntKind.signed, IntKind.bits]
    simp
    omega
  refine ⟨((IntKind.u64.wrap z).tmod 4097).toNat, ?_, ?_⟩
  · rw [Int.tmod_eq_emod_of_nonneg h0]; omega
  · rw [Int.tmod_eq_emod_of_nonneg h0]; omega
set_option maxRecDepth 8000 in
set_option maxHeartbeats 4000000 in
theorem drops_any {w : World} {z : Int} {N1 N2 c1 c2 : Nat} {a1 a2 : Option Addr} {b c : List UInt8} (h1 : LAt w (.slice a1 N1 c1) (uv b)) (h2 : LAt w (.slice a2 N2 c2) (uv c)) (hN1 : b.length = N1) (hN2 : c.length = N2) (hl1 : N1 ≤ 1048576) (hl2 : N2 ≤ 1048576) :
    Calls Try.prog 4 #[.int .i64 z, .slice a1 N1 c1, .slice a2 N2 c2] w fun e w' => e = .returned (.bool true) ∧ Below w.heap.size w w' := by
  have hp1 : ∀ (p : Option Addr) (u : World), (binOp .eql 28 (.pointer p) (.pointer none)).run Try.prog u = .ok (.bool p.isNone) u := fun p u => run_eql_pointer_nil u _ p (by kernel_rfl)
  have HA : Hid (LAt w (.slice a1 N1 c1) (uv b) ∧ LAt w (.slice a2 N2 c2) (uv c) ∧ b.length = N1 ∧ c.length = N2) := ⟨h1, h2, hN1, hN2⟩
  have HK : Hid (Calls Try.prog 6 #[] w _) := known_fn w
  clear h1 h2 hN1 hN2
  go_enter Try.func4, Try.ntmps4
  go_wp2_with fail
  refine HK.out.mono ?_
  rintro e w1 ⟨rfl, k1⟩
  have HK1 : Hid (Below w.heap.size w w1) := k1
  clear HK k1
  obtain ⟨Y, hq, hY⟩ := most_of z
  have HN : Hid (Calls Try.prog 7 #[.int .i64 (Y : Nat)] w1 _) := new_yes w1 hY
  go_wp2_with fail
  refine HN.out.mono ?_
  rintro e w2 ⟨rfl, m1, k2⟩
  obtain ⟨B1, hB1⟩ : ∃ B1, w1.heap.size = B1 := ⟨_, rfl⟩
  rw [hB1] at m1 ⊢
  have HM : Hid (MkAt w2 B1 (.slice none 0 0) (mk0 Y) ∧ Below w.heap.size w w2 ∧ w1.heap.size = B1 ∧ w.heap.size ≤ B1) := ⟨m1, below_step HK1.out k2, hB1, by have := HK1.out.size; omega⟩
  have HN : Hid (Calls Try.prog 7 #[.int .i64 (Y : Nat)] w2 _) := new_yes w2 hY
  clear m1 k2 hB1 HN
  have HN : Hid (Calls Try.prog 7 #[.int .i64 (Y : Nat)] w2 _) := new_yes w2 hY
  go_wp2_with fail
  refine HN.out.mono ?_
  rintro e w3 ⟨rfl, m2, k3⟩
  obtain ⟨B2, hB2⟩ : ∃ B2, w2.heap.size = B2 := ⟨_, rfl⟩
  rw [hB2] at m2 ⊢
  have HP : Hid (P2 w B1 (mk0 Y) B2 (mk0 Y) w3) := ⟨⟨_, _, HM.out.1.later k3, m2, fun b hb => (by cases hb), fun b hb => (by cases hb), fun b hb => (by cases hb)⟩, fun e => by have := HM.out.1.b.lt; omega, HM.out.2.2.2, by have := HM.out.2.1.size; omega, below_step HM.out.2.1 k3⟩
  have H1 : Hid (∀ u, Calls Try.prog 8 #[.int .i64 0] u fun e w' => e = .returned (.int .i64 0) ∧ w' = u) := fun u => num_fn 0 u
  clear m2 k3 hB2 HN HM HK1
  go_wp2_with fail
  refine (H1.out _).mono ?_
  rintro e wx ⟨rfl, hwx⟩
  rw [hwx]
  clear hwx
  go_wp2_with fail
  refine (H1.out _).mono ?_
  rintro e wx ⟨rfl, hwx⟩
  rw [hwx]
  clear hwx H1
  have HF : Hid (Calls Try.prog 9 #[.pointer (some ⟨B1, 0, none⟩), .slice a1 N1 c1, .slice none 0 0, .int .i64 (Y : Nat)] w3 _) := p2_fed HP.out HA.out.2.2.1 rfl hY HA.out.1 hl1 (Nat.zero_le _) (Nat.zero_le _)
  clear HP
  go_wp2_with fail
  refine HF.out.mono ?_
  rintro e w4 ⟨VL, L, m4, rfl, hp4, hr4, hL4, hm4, _⟩
  have HLG : Hid (m4.most = Y ∧ m4.long ≤ 1048576) := by
    have hb := (St.go_bounds Y b (St.mk [] [] 0)).1
    have h1 := HA.out.2.2.1
    simp only [List.length_nil] at hb
    rw [hm4]
    refine ⟨rfl, ?_⟩
    show 0 + ((St.mk [] [] 0).go Y b).lg ≤ 1048576
    omega
  obtain ⟨v1, v2, rfl⟩ := own_form hr4
  obtain ⟨n4, hn4⟩ : ∃ n4, L.length = n4 := ⟨_, rfl⟩
  rw [hn4]
  obtain ⟨V4, _, a4, _⟩ := hp4.ex
  obtain ⟨g4, hg4⟩ : ∃ g4, m4.long = g4 := ⟨_, rfl⟩
  have HG4 : Hid (m4.long = g4) := hg4
  have HLN : Hid (Calls Try.prog 10 #[.pointer (some ⟨B1, 0, none⟩)] w4 _) := long_fn a4.b
  rw [hg4] at HLN
  have HDR : Hid (Calls Try.prog 13 #[.pointer (some ⟨B1, 0, none⟩)] w4 _) := drop_at a4
  have HP4 : Hid (∀ u, MTo B1 V4 m4.drop w4 u → P2 w B1 m4.drop B2 (mk0 Y) u) := fun u hu => hp4.step fun V hV => by rw [hV.same a4]; exact hu
  clear HF hp4 hr4 hL4 hm4 hn4 a4 hg4
  go_wp2_with fail
  refine HLN.out.mono ?_
  rintro e w5 ⟨rfl, hwx⟩
  rw [hwx]
  clear hwx HLN
  go_wp2_with fail
  refine HDR.out.mono ?_
  rintro e w5 ⟨rfl, hu⟩
  have HP5 : Hid (P2 w B1 m4.drop B2 (mk0 Y) w5) := HP4.out w5 hu
  obtain ⟨V5, _, a5, _⟩ := HP5.out.ex
  have HH : Hid (Calls Try.prog 12 #[.pointer (some ⟨B1, 0, none⟩)] w5 _) := held_fn a5.b a5.o
  have HBG : Hid (Calls Try.prog 11 #[.pointer (some ⟨B1, 0, none⟩)] w5 _) := begun_fn a5.b
  have HLN : Hid (Calls Try.prog 10 #[.pointer (some ⟨B1, 0, none⟩)] w5 _) := long_fn a5.b
  rw [show m4.drop.held.length = 0 by unfold Mk.held Mk.drop; split <;> rfl] at HH
  rw [show m4.drop.u.length = 0 from rfl] at HBG
  rw [show m4.drop.long = g4 from HG4.out] at HLN
  clear hu HDR HP4 a5
  go_wp2_with fail
  refine HH.out.mono ?_
  rintro e wx ⟨rfl, hwx⟩
  rw [hwx]
  clear hwx HH
  go_wp2_with fail
  refine HBG.out.mono ?_
  rintro e wx ⟨rfl, hwx⟩
  rw [hwx]
  clear hwx HBG
  go_wp2_with fail
  refine HLN.out.mono ?_
  rintro e wx ⟨rfl, hwx⟩
  rw [hwx]
  clear hwx HLN
  have HF : Hid (Calls Try.prog 9 #[.pointer (some ⟨B1, 0, none⟩), .slice a2 N2 c2, .slice none 0 0, .int .i64 (Y : Nat)] w5 _) := p2_fed HP5.out HA.out.2.2.2 HLG.out.1 hY HA.out.2.1 hl2 (by exact Nat.zero_le _) HLG.out.2
  clear HP5
  go_wp2_with fail
  refine HF.out.mono ?_
  rintro e w6 ⟨VX, X, m6, rfl, hp6, hr6, hL6, hm6, _⟩
  have HX6 : Hid (P2 w B1 m6 B2 (mk0 Y) w6 ∧ w6.ownsRow 0 9 1 VX X.length (sv X) ∧ X = ((St.mk [] [] 0).go Y c).ls ∧ m6 = ⟨((St.mk [] [] 0).go Y c).u, Y, m4.long + ((St.mk [] [] 0).go Y c).lg⟩) := ⟨hp6, hr6, hL6, hm6⟩
  have HF2 : Hid (Calls Try.prog 9 #[.pointer (some ⟨B2, 0, none⟩), .slice a2 N2 c2, .slice none 0 0, .int .i64 (Y : Nat)] w6 _) := p2_fed HX6.out.1.swap HA.out.2.2.2 rfl hY HA.out.2.1 hl2 (Nat.zero_le _) (Nat.zero_le _)
  clear HF hp6 hr6 hL6 hm6
  obtain ⟨x1, x2, hvx⟩ := own_form HX6.out.2.1
  subst hvx
  go_wp2_with fail
  refine HF2.out.mono ?_
  rintro e w7 ⟨VY, Z, m7, rfl, hp7, hr7, hL7, hm7, hk7⟩
  have HX7 : Hid (P2 w B1 m6 B2 m7 w7 ∧ w7.ownsRow 0 9 1 (.slice x1 X.length x2) X.length (sv X) ∧ w7.ownsRow 0 9 1 VY X.length (sv X) ∧ m7 = ⟨m6.u, Y, ((St.mk [] [] 0).go Y c).lg⟩ ∧ m6.most = Y ∧ m6.long = m4.long + ((St.mk [] [] 0).go Y c).lg) := by
    have e0 : Z = X := hL7.trans HX6.out.2.2.1.symm
    subst e0
    refine ⟨hp7.swap, hk7 _ _ _ _ HX6.out.2.1, hr7, ?_, ?_, ?_⟩
    · rw [hm7, HX6.out.2.2.2]; show _ = (⟨_, _, _⟩ : Mk); rw [show (mk0 Y).long = 0 from rfl, Nat.zero_add]; rfl
    · rw [HX6.out.2.2.2]
    · rw [HX6.out.2.2.2]
  have HXL : Hid (X = ((St.mk [] [] 0).go Y c).ls) := HX6.out.2.2.1
  clear HF2 HX6 hp7 hr7 hL7 hm7 hk7
  obtain ⟨y1, y2, hvy⟩ := own_form HX7.out.2.2.1
  subst hvy
  obtain ⟨lg, hlg⟩ : ∃ lg, ((St.mk [] [] 0).go Y c).lg = lg := ⟨_, rfl⟩
  have hlgb : lg ≤ 1048576 := by
    have hb := (St.go_bounds Y c (St.mk [] [] 0)).1
    have h1 := HA.out.2.2.2
    simp only [List.length_nil] at hb
    omega
  have hg4b : g4 ≤ 1048576 := by have h1 := HLG.out.2; have h2 := HG4.out; omega
  have hXl : X.length ≤ 2097152 := by
    have h1 := HA.out.2.2.2
    have hb := (St.go_bounds Y c (St.mk [] [] 0)).1
    have h2 := HX7.out.1.lo.size
    have e0 := HXL.out
    simp only [List.length_nil] at hb
    rw [← e0] at hb
    omega
  obtain ⟨val, hv1, hv2⟩ : ∃ val : Nat → Int, val B1 = (g4 : Int) + (lg : Int) ∧ val B2 = (lg : Int) := ⟨fun b => if b = B1 then (g4 : Int) + (lg : Int) else (lg : Int), if_pos rfl, if_neg (fun e => HX7.out.1.ne e.symm)⟩
  obtain ⟨hl, hhl⟩ : ∃ hl, m6.held.length = hl := ⟨_, rfl⟩
  obtain ⟨ul, hul⟩ : ∃ ul, m6.u.length = ul := ⟨_, rfl⟩
  have HS : Hid (m7.held.length = hl ∧ m7.u.length = ul ∧ m7.long = lg ∧ m6.held.length = hl ∧ m6.u.length = ul ∧ m6.long = g4 + lg) := by
    have e7 := HX7.out.2.2.2.1
    refine ⟨?_, ?_, ?_, hhl, hul, ?_⟩
    · rw [← hhl, e7]; unfold Mk.held; rw [HX7.out.2.2.2.2.1]
    · rw [← hul, e7]
    · rw [e7]; exact hlg
    · rw [HX7.out.2.2.2.2.2, HG4.out, hlg]
  have HCH : Hid (∀ q b, (b = B1 ∨ b = B2) → Calls Try.prog 12 #[.pointer (some ⟨b, 0, none⟩)] (w7.drewN q) fun e w' => e = .returned (.int .i64 (hl : Nat)) ∧ w' = w7.drewN q) := fun q b hb => by
    obtain ⟨V1, V2, b1, b2, _⟩ := HX7.out.1.ex
    rcases hb with rfl | rfl
    · have h := held_fn (w := w7.drewN q) b1.b (b1.o.keep fun _ _ _ => rfl)
      rw [HS.out.2.2.2.1] at h
      exact h
    · have h := held_fn (w := w7.drewN q) b2.b (b2.o.keep fun _ _ _ => rfl)
      rw [HS.out.1] at h
      exact h
  have HCB : Hid (∀ q b, (b = B1 ∨ b = B2) → Calls Try.prog 11 #[.pointer (some ⟨b, 0, none⟩)] (w7.drewN q) fun e w' => e = .returned (.int .i64 (ul : Nat)) ∧ w' = w7.drewN q) := fun q b hb => by
    obtain ⟨V1, V2, b1, b2, _⟩ := HX7.out.1.ex
    rcases hb with rfl | rfl
    · have h := begun_fn (w := w7.drewN q) b1.b
      rw [HS.out.2.2.2.2.1] at h
      exact h
    · have h := begun_fn (w := w7.drewN q) b2.b
      rw [HS.out.2.1] at h
      exact h
  have HCL : Hid (∀ q b, (b = B1 ∨ b = B2) → Calls Try.prog 10 #[.pointer (some ⟨b, 0, none⟩)] (w7.drewN q) fun e w' => e = .returned (.int .i64 (val b)) ∧ w' = w7.drewN q) := fun q b hb => by
    obtain ⟨V1, V2, b1, b2, _⟩ := HX7.out.1.ex
    rcases hb with rfl | rfl
    · have h := long_fn (w := w7.drewN q) b1.b
      rw [HS.out.2.2.2.2.2] at h
      rw [hv1]
      exact h
    · have h := long_fn (w := w7.drewN q) b2.b
      rw [HS.out.2.2.1] at h
      rw [hv2]
      exact h
  obtain ⟨nx, hnx⟩ : ∃ nx, X.length = nx := ⟨_, rfl⟩
  have HNX : Hid (X.length = nx) := hnx
  rw [hnx] at hXl
  rw [hnx]
  have HRX : Hid (w7.ownsRow 0 9 1 (.slice x1 nx x2) nx (sv X)) := by have := HX7.out.2.1; rw [hnx] at this; exact this
  have HRY : Hid (w7.ownsRow 0 9 1 (.slice y1 nx y2) nx (sv X)) := by have := HX7.out.2.2.1; rw [hnx] at this; exact this
  have HLO : Hid (Below w.heap.size w w7) := HX7.out.1.lo
  clear hlg hhl hul hnx HX7 HA HG4 HLG HS HXL
  go_upto_region 15 with fail
  go_quiet ((first
    | (go_at_call 12; exact Calls.quiet_of_same (HCH.out _ _ (by first | exact .inl rfl | exact .inr rfl)))
    | (go_at_call 11; exact Calls.quiet_of_same (HCB.out _ _ (by first | exact .inl rfl | exact .inr rfl)))
    | (go_at_call 10; exact Calls.quiet_of_same (HCL.out _ _ (by first | exact .inl rfl | exact .inr rfl)))))
  have H0 : Hid (LAt (w7.drewN nq) (.slice x1 nx x2) (sv X) ∧ LAt (w7.drewN nq) (.slice y1 nx y2) (sv X) ∧ Below w.heap.size w (w7.drewN nq)) := ⟨(owns_lat HRX.out).keep (fun _ _ _ h => h), (owns_lat HRY.out).keep (fun _ _ _ h => h), HLO.out.trans ⟨rfl, rfl, rfl, Nat.le_refl _, fun _ _ => rfl⟩⟩
  clear HRX HRY HLO HCH HCB HCL hv1 hv2
  go_wp2_with fail
  go_loopw [137] (fun i u => ∃ k : Nat, k ≤ nx ∧ i = .int .i64 (k : Nat) ∧ Hid (LAt u (.slice x1 nx x2) (sv X) ∧ LAt u (.slice y1 nx y2) (sv X) ∧ Below w.heap.size w u)) (fun i _ => nx - (intOf i).toNat)
  case atStart => exact ⟨0, Nat.zero_le _, rfl, H0.out⟩
  case round =>
    obtain ⟨k, hk, rfl, HI⟩ := hrel
    clear H0
    by_cases hlt : k < nx
    · obtain ⟨t, ht⟩ : ∃ t, X[k]? = some t := ⟨_, List.getElem?_eq_getElem (by rw [HNX.out]; exact hlt)⟩
      have hs : (sv X)[k]? = some (.string ⟨t.toArray⟩) := by unfold sv; rw [List.getElem?_map, ht]; rfl
      obtain ⟨_, _, e1, _, _, g1⟩ := HI.out.1.open
      obtain ⟨b1, o1, f1, q1⟩ := g1 k _ hs
      obtain ⟨_, _, e2, _, _, g2⟩ := HI.out.2.1.open
      obtain ⟨b2, o2, f2, q2⟩ := g2 k _ hs
      obtain ⟨rfl, -, -⟩ := Value.slice.inj e1
      obtain ⟨rfl, -, -⟩ := Value.slice.inj e2
      subst f1 f2
      obtain ⟨st, hst⟩ : ∃ st : ByteArray, ⟨t.toArray⟩ = st := ⟨_, rfl⟩
      rw [hst] at q1 q2
      clear hst hs ht g1 g2 e1 e2
      go_upto_region 20 with fail
      go_quiet (fail)
      have HI2 : Hid (LAt (wr.drewN nq) (.slice (some ⟨b1, o1, none⟩) nx x2) (sv X) ∧ LAt (wr.drewN nq) (.slice (some ⟨b2, o2, none⟩) nx y2) (sv X) ∧ Below w.heap.size w (wr.drewN nq)) := ⟨HI.out.1.keep (fun _ _ _ h => h), HI.out.2.1.keep (fun _ _ _ h => h), HI.out.2.2.trans ⟨rfl, rfl, rfl, Nat.le_refl _, fun _ _ => rfl⟩⟩
      go_wp2
      go_roundw
      case rel => exact ⟨k + 1, by omega, by go_num, HI2.out⟩
      case measure => simp [intOf]; omega
    · obtain rfl : k = nx := by omega
      go_wp2
      go_ret
      exact ⟨rfl, HI.out.2.2⟩
end Go.Proofs.Ytjmjhmohholmbaa
