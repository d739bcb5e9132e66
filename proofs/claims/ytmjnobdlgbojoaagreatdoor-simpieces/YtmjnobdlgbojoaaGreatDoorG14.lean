
import Derived.Test.YtmjnobdlgbojoaaGreatDoorG13
namespace Go.Proofs.YtmjnobdlgbojoaaGreatDoor
open Go.RowKit
attribute [local go_sem ↓] Go.wp_at_zero Go.wp_at_succ
theorem ret_place {a b : Int} {t : Bool} (h : a = b) : Ending.returned (.tuple #[.int .i64 a, .bool t]) = Ending.returned (.tuple #[.int .i64 b, .bool t]) := by rw [h]
def PlaceV (t : Tn) : Ending := .returned (.tuple #[.int .i64 ((plc t).1 : Nat), .bool (plc t).2])
set_option maxRecDepth 4000 in
set_option maxHeartbeats 8000000 in
theorem places_any {w0 : World} {t : Tn} {x : Nd} (h : InAt w0 t x) : ∀ w, Below w0.heap.size w0 w → Calls Tryz.prog 41 #[x.val] w fun e w' => e = PlaceV t ∧ Below w.heap.size w w' := by
  induction h with
  | mk k s subs mn mx a n c vs hn hl hm hr hs ih =>
    intro w hw
    obtain ⟨x, hx⟩ : ∃ x : Nd, x = ⟨k, s, a, n, c, mn, mx⟩ := ⟨_, rfl⟩
    rw [← hx]
    have HX0 : Hid (x = ⟨k, s, a, n, c, mn, mx⟩) := hx
    have HIH : Hid (∀ (i : Nat) (t : Tn) (v : Nd), subs[i]? = some t → vs[i]? = some v → ∀ w, Below w0.heap.size w0 w → Calls Tryz.prog 41 #[v.val] w fun e w' => e = PlaceV t ∧ Below w.heap.size w w') := ih
    have HRO : Hid (RowAt (fun _ => True) w0 a vs) := hr
    have HN : Hid (n = subs.length) := hn
    have HL : Hid (vs.length = n) := hl
    have HSH : Hid (∀ u, Calls Tryz.prog 65 #[x.val] u fun e w' => e = .returned (.bool (shapedT k s n mn mx)) ∧ Below u.heap.size u w') := fun u => by
      have := shaped_any x u
      rw [hx] at this ⊢
      exact this
    have HPL : Hid (plc (.mk k s subs mn mx) = if shapedT k s n mn mx then match plcs subs 0 with
      | some n => (min (ends k n subs.length mn mx) 2048, true)
      | none => (0, false)
      else (0, false)) := by show _ = _; rw [plc, hn]; rfl
    have HW : Hid (Below w0.heap.size w0 w) := hw
    have HNB : Hid (NB (w.alloc (.cells #[.int .i64 k, .int .u64 (Oct.word s 0 : Nat), .int .u64 (Oct.word s 1 : Nat), .int .u64 (Oct.word s 2 : Nat), .int .u64 (Oct.word s 3 : Nat), .slice a n c, .int .i64 mn, .int .i64 mx] 30)) w.heap.size x) := by rw [hx]; exact nb_new w ⟨k, s, a, n, c, mn, mx⟩
    have HB1 : Hid (Below w.heap.size w (w.alloc (.cells #[.int .i64 k, .int .u64 (Oct.word s 0 : Nat), .int .u64 (Oct.word s 1 : Nat), .int .u64 (Oct.word s 2 : Nat), .int .u64 (Oct.word s 3 : Nat), .slice a n c, .int .i64 mn, .int .i64 mx] 30)) ) := (Below.refl _ _).alloc (Nat.le_refl _) _
    obtain ⟨w1, hw1⟩ : ∃ w1, w1 = w.alloc (.cells #[.int .i64 k, .int .u64 (Oct.word s 0 : Nat), .int .u64 (Oct.word s 1 : Nat), .int .u64 (Oct.word s 2 : Nat), .int .u64 (Oct.word s 3 : Nat), .slice a n c, .int .i64 mn, .int .i64 mx] 30) := ⟨_, rfl⟩
    rw [← hw1] at HNB HB1
    obtain ⟨A, hA⟩ : ∃ A, A = w.heap.size := ⟨_, rfl⟩
    rw [← hA] at HNB
    have HAA : Hid (A = w.heap.size) := hA
    have HW1 : Hid (w.alloc _ = w1) := hw1.symm
    have HVAL : Hid (x.val = .agg #[.int .i64 k, .int .u64 (Oct.word s 0 : Nat), .int .u64 (Oct.word s 1 : Nat), .int .u64 (Oct.word s 2 : Nat), .int .u64 (Oct.word s 3 : Nat), .slice a n c, .int .i64 mn, .int .i64 mx]) := by show _ = _; rw [hx]; rfl
    have HCE : Hid (∀ u, Below w1.heap.size w1 u → u.cell? ⟨A, 0, none⟩ = some (.int .i64 k) ∧ u.cell? ⟨A, 1, none⟩ = some (.int .u64 (Oct.word s 0 : Nat)) ∧ u.cell? ⟨A, 2, none⟩ = some (.int .u64 (Oct.word s 1 : Nat)) ∧ u.cell? ⟨A, 3, none⟩ = some (.int .u64 (Oct.word s 2 : Nat)) ∧ u.cell? ⟨A, 4, none⟩ = some (.int .u64 (Oct.word s 3 : Nat)) ∧ u.cell? ⟨A, 5, none⟩ = some (.slice a n c) ∧ u.cell? ⟨A, 6, none⟩ = some (.int .i64 mn) ∧ u.cell? ⟨A, 7, none⟩ = some (.int .i64 mx)) := fun u hu => by
      have := (HNB.out.later hu).cells
      rw [hx] at this
      exact this
    rw [HVAL.out] at HSH ⊢
    clear hx hw hw1 hA hn hl hr hs ih HX0 HVAL
    obtain ⟨b0, b1, b2, b3, b4, b5, b6, b7⟩ := HCE.out w1 (Below.refl _ _)
    go_enter Tryz.func41, Tryz.ntmps41
    go_upto_region 1 with fail
    rw [HW1.out, ← HAA.out]
    clear HW1
    go_wp2_with fail
    refine (HSH.out _).mono ?_
    rintro e w2 ⟨rfl, k2⟩
    have HB2 : Hid (Below w1.heap.size w1 w2) := k2
    clear k2 HSH b0 b1 b2 b3 b4 b5 b6 b7
    cases hsh : shapedT k s n mn mx with
    | false =>
      have HX : Hid (plc (.mk k s subs mn mx) = (0, false)) := by show _ = _; rw [HPL.out, hsh]; rfl
      clear hsh
      go_wp2
      go_ret2
      exact ⟨by unfold PlaceV; rw [HX.out]; rfl, below_step HB1.out HB2.out⟩
    | true =>
      have HPP : Hid (plc (.mk k s subs mn mx) = match plcs subs 0 with
        | some n => (min (ends k n subs.length mn mx) 2048, true)
        | none => (0, false)) := by show _ = _; rw [HPL.out, hsh]; rfl
      have HSHT : Hid (shapedT k s n mn mx = true) := hsh
      clear hsh HPL
      obtain ⟨b0, b1, b2, b3, b4, b5, b6, b7⟩ := HCE.out w2 HB2.out
      go_wp2_with fail
      go_loopw [4, 15] (fun v i u => ∃ (m p : Nat), v = .int .i64 (p : Nat) ∧ i = .int .i64 (m : Nat) ∧ m ≤ n ∧ p ≤ 2048 ∧ Hid (plcs subs 0 = plcs (subs.drop m) p) ∧ Hid (Below w1.heap.size w1 u)) (fun _ i _ => n - (intOf i).toNat)
      case atStart => exact ⟨0, 0, rfl, rfl, Nat.zero_le _, by decide, by show _ = _; rfl, HB2.out⟩
      case round =>
        clear b0 b1 b2 b3 b4 b5 b6 b7 HB2
        obtain ⟨m, p, rfl, rfl, hmn, hp, HPS, HBU⟩ := hrel
        by_cases hlt : m < n
        · obtain ⟨t, ht⟩ : ∃ t, subs[m]? = some t := ⟨_, List.getElem?_eq_getElem (by rw [← HN.out]; exact hlt)⟩
          obtain ⟨v, hv⟩ : ∃ v, vs[m]? = some v := ⟨_, List.getElem?_eq_getElem (by rw [HL.out]; exact hlt)⟩
          have HW0 : Hid (Below w0.heap.size w0 wr) := below_step (below_step HW.out HB1.out) HBU.out
          have hrow := (HRO.out.keep (Y := fun _ => True) (fun _ h _ => h) (fun b _ hlt => HW0.out.block b hlt)).nth hv
          obtain ⟨g, off, rfl, e0, e1, e2, e3, e4, e5, e6, e7⟩ := hrow
          have HCALL : Hid (∀ u, Below w0.heap.size w0 u → Calls Tryz.prog 41 #[v.val] u fun e w' => e = PlaceV t ∧ Below u.heap.size u w') := HIH.out m t v ht hv
          have HSTEP : Hid (plcs subs 0 = if (plc t).2 then plcs (subs.drop (m + 1)) (min (p + (plc t).1) 2048) else none) := by show _ = _; rw [HPS.out]; exact plcs_step ht p
          have HLE := plc_le t
          clear ht hv
          have k3 : Below wr.heap.size wr (wr.alloc (.cells #[.int .i64 v.k, .int .u64 (Oct.word v.s 0 : Nat), .int .u64 (Oct.word v.s 1 : Nat), .int .u64 (Oct.word v.s 2 : Nat), .int .u64 (Oct.word v.s 3 : Nat), .slice v.a v.n v.c, .int .i64 v.mn, .int .i64 v.mx] 30)) := (Below.refl _ _).alloc (Nat.le_refl _) _
          have HB3 : Hid (Below w1.heap.size w1 (wr.alloc (.cells #[.int .i64 v.k, .int .u64 (Oct.word v.s 0 : Nat), .int .u64 (Oct.word v.s 1 : Nat), .int .u64 (Oct.word v.s 2 : Nat), .int .u64 (Oct.word v.s 3 : Nat), .slice v.a v.n v.c, .int .i64 v.mn, .int .i64 v.mx] 30))) := below_step HBU.out k3
          have HW3 : Hid (Below w0.heap.size w0 (wr.alloc (.cells #[.int .i64 v.k, .int .u64 (Oct.word v.s 0 : Nat), .int .u64 (Oct.word v.s 1 : Nat), .int .u64 (Oct.word v.s 2 : Nat), .int .u64 (Oct.word v.s 3 : Nat), .slice v.a v.n v.c, .int .i64 v.mn, .int .i64 v.mx] 30))) := below_step HW0.out k3
          have HN3 : Hid (NB (wr.alloc (.cells #[.int .i64 v.k, .int .u64 (Oct.word v.s 0 : Nat), .int .u64 (Oct.word v.s 1 : Nat), .int .u64 (Oct.word v.s 2 : Nat), .int .u64 (Oct.word v.s 3 : Nat), .slice v.a v.n v.c, .int .i64 v.mn, .int .i64 v.mx] 30)) wr.heap.size v) := nb_new wr v
          clear k3
          obtain ⟨w3, hw3⟩ : ∃ w3, w3 = wr.alloc (.cells #[.int .i64 v.k, .int .u64 (Oct.word v.s 0 : Nat), .int .u64 (Oct.word v.s 1 : Nat), .int .u64 (Oct.word v.s 2 : Nat), .int .u64 (Oct.word v.s 3 : Nat), .slice v.a v.n v.c, .int .i64 v.mn, .int .i64 v.mx] 30) := ⟨_, rfl⟩
          obtain ⟨Y, hY⟩ : ∃ Y, Y = wr.heap.size := ⟨_, rfl⟩
          rw [← hw3] at HB3 HW3 HN3
          rw [← hY] at HN3
          have HWW : Hid (wr.alloc (.cells #[.int .i64 v.k, .int .u64 (Oct.word v.s 0 : Nat), .int .u64 (Oct.word v.s 1 : Nat), .int .u64 (Oct.word v.s 2 : Nat), .int .u64 (Oct.word v.s 3 : Nat), .slice v.a v.n v.c, .int .i64 v.mn, .int .i64 v.mx] 30) = w3) := hw3.symm
          have HYY : Hid (wr.heap.size = Y) := hY.symm
          clear hw3 hY
          go_upto_region 7 with fail
          rw [HWW.out, HYY.out]
          clear HWW HYY e0 e1 e2 e3 e4 e5 e6 e7
          obtain ⟨e0, e1, e2, e3, e4, e5, e6, e7⟩ := HN3.out.cells
          have HC := HCALL.out w3 HW3.out
          unfold Nd.val at HC
          have HCC : Hid (Calls Tryz.prog 41 _ w3 _) := HC
          clear HC HCALL
          go_wp2_with fail
          refine HCC.out.mono ?_
          rintro e w4 ⟨rfl, k4⟩
          have HB4 : Hid (Below w1.heap.size w1 w4) := below_step HB3.out k4
          clear k4 HCC e0 e1 e2 e3 e4 e5 e6 e7
          unfold PlaceV
          obtain ⟨q, hq⟩ : ∃ q, q = (plc t).1 := ⟨_, rfl⟩
          rw [← hq] at HLE HSTEP ⊢
          clear hq
          cases hb : (plc t).2 with
          | false =>
            have HX : Hid (plc (.mk k s subs mn mx) = (0, false)) := by show _ = _; rw [HPP.out, HSTEP.out, hb]; rfl
            clear hb
            go_wp2
            go_ret2
            exact ⟨by unfold PlaceV; rw [HX.out]; rfl, below_step HB1.out HB4.out⟩
          | true =>
            have HS2 : Hid (plcs subs 0 = plcs (subs.drop (m + 1)) (min (p + q) 2048)) := by show _ = _; rw [HSTEP.out, hb]; rfl
            clear hb HSTEP
            by_cases hle : p + q ≤ 2048
            · have HM : Hid (min (p + q) 2048 = p + q) := Nat.min_eq_left hle
              have g1 : (p : Int) + (q : Int) ≤ 2048 := by omega
              go_wp2
              go_roundw
              case rel => exact ⟨m + 1, p + q, by go_num, by go_num, by omega, by omega, by show _ = _; rw [HS2.out, HM.out], HB4.out⟩
              case measure => simp [intOf]; omega
            · have HM : Hid (min (p + q) 2048 = 2048) := Nat.min_eq_right (by omega)
              have g1 : ¬ (p : Int) + (q : Int) ≤ 2048 := by omega
              go_wp2
              go_roundw
              case rel => exact ⟨m + 1, 2048, by go_num, by go_num, by omega, by omega, by show _ = _; rw [HS2.out, HM.out], HB4.out⟩
              case measure => simp [intOf]; omega
        · have HX : Hid (plc (.mk k s subs mn mx) = (min (ends k p n mn mx) 2048, true)) := by
            show _ = _
            rw [HPP.out, HPS.out, List.drop_eq_nil_of_le (by rw [← HN.out]; omega), plcs, ← HN.out]
          have hmE : m = n := by omega
          clear HPS HPP hlt
          obtain ⟨b0, b1, b2, b3, b4, b5, b6, b7⟩ := HCE.out wr HBU.out
          by_cases h2 : k = 2
          · have hk := h2
            clear h2
            have k2 : (k == 2) = true := by simp [hk]
            have k6 : (k == 6) = false := by simp [hk]
            have k7 : (k == 7) = false := by simp [hk]
            have k4 : (k == 4) = false := by simp [hk]
            have k5 : (k == 5) = false := by simp [hk]
            have HE : Hid (min (ends k p n mn mx) 2048 = 1) := by show _ = _; simp [ends, hk]
            clear hk
            go_wp2
            go_ret2
            exact ⟨by unfold PlaceV; rw [HX.out, HE.out]; rfl, below_step HB1.out HBU.out⟩
          · by_cases h6 : k = 6
            · have hk := h6
              clear h6
              have k2 : (k == 2) = false := by simp [hk]
              have k6 : (k == 6) = true := by simp [hk]
              have k7 : (k == 7) = false := by simp [hk]
              have k4 : (k == 4) = false := by simp [hk]
              have k5 : (k == 5) = false := by simp [hk]
              have HE : Hid (min (ends k p n mn mx) 2048 = 1) := by show _ = _; simp [ends, hk]
              clear hk
              go_wp2
              go_ret2
              exact ⟨by unfold PlaceV; rw [HX.out, HE.out]; rfl, below_step HB1.out HBU.out⟩
            · by_cases h7 : k = 7
              · have hk := h7
                clear h7
                have k2 : (k == 2) = false := by simp [hk]
                have k6 : (k == 6) = false := by simp [hk]
                have k7 : (k == 7) = true := by simp [hk]
                have k4 : (k == 4) = false := by simp [hk]
                have k5 : (k == 5) = false := by simp [hk]
                have HE : Hid (min (ends k p n mn mx) 2048 = 1) := by show _ = _; simp [ends, hk]
                clear hk
                go_wp2
                go_ret2
                exact ⟨by unfold PlaceV; rw [HX.out, HE.out]; rfl, below_step HB1.out HBU.out⟩
              · by_cases h4 : k = 4
                · have hk := h4
                  clear h4
                  have k2 : (k == 2) = false := by simp [hk]
                  have k6 : (k == 6) = false := by simp [hk]
                  have k7 : (k == 7) = false := by simp [hk]
                  have k4 : (k == 4) = true := by simp [hk]
                  have k5 : (k == 5) = false := by simp [hk]
                  by_cases hle : p + n + 1 ≤ 2048
                  · have HE : Hid (min (ends k p n mn mx) 2048 = p + n + 1) := by show _ = _; simp [ends, hk]; omega
                    have g1 : (p : Int) + ((n : Int) + 1) ≤ 2048 := by omega
                    clear hk
                    go_wp2
                    go_ret2
                    exact ⟨by unfold PlaceV; rw [HX.out, HE.out]; exact ret_place (by omega), below_step HB1.out HBU.out⟩
                  · have HE : Hid (min (ends k p n mn mx) 2048 = 2048) := by show _ = _; simp [ends, hk]; omega
                    have g1 : ¬ (p : Int) + ((n : Int) + 1) ≤ 2048 := by omega
                    clear hk
                    go_wp2
                    go_ret2
                    exact ⟨by unfold PlaceV; rw [HX.out, HE.out]; exact ret_place (by omega), below_step HB1.out HBU.out⟩
                · by_cases h5 : k = 5
                  · have hk := h5
                    clear h5
                    have k2 : (k == 2) = false := by simp [hk]
                    have k6 : (k == 6) = false := by simp [hk]
                    have k7 : (k == 7) = false := by simp [hk]
                    have k4 : (k == 4) = false := by simp [hk]
                    have k5 : (k == 5) = true := by simp [hk]
                    have hct : counted mn mx = true := by
                      have h1 := HSHT.out
                      unfold shapedT at h1
                      simp [hk] at h1
                      exact h1.2
                    unfold counted at hct
                    simp at hct
                    obtain ⟨l, rfl⟩ : ∃ l : Nat, mn = (l : Int) := ⟨mn.toNat, by omega⟩
                    have hlb : l ≤ 255 := by omega
                    have hxa : -1 ≤ mx := by omega
                    have hxb : mx ≤ 255 := by omega
                    have hRL := repT_le (o := p) (l := l) (m := mx) hp hlb hxa hxb
                    have HEN : Hid (ends k p n (l : Int) mx = (repT p l mx).toNat) := by show _ = _; simp [ends, hk]
                    have HREP : Hid (∀ u, Calls Tryz.prog 66 #[.int .i64 (p : Nat), .int .i64 (l : Nat), .int .i64 mx] u fun e w' => e = .returned (.int .i64 (repT p l mx)) ∧ w' = u) := fun u => repeats_any p l mx u hp hlb hxa hxb
                    obtain ⟨r, hr⟩ : ∃ r, r = repT p l mx := ⟨_, rfl⟩
                    rw [← hr] at hRL HEN HREP
                    clear hr hct hxa hxb hk
                    go_wp2_with fail
                    refine (HREP.out _).mono ?_
                    rintro e w9 ⟨rfl, hw9⟩
                    have hw9 := hw9.symm
                    subst hw9
                    by_cases hle : r ≤ 2048
                    · have HE : Hid (min (ends k p n (l : Int) mx) 2048 = r.toNat) := by show _ = _; rw [HEN.out]; omega
                      go_wp2
                      go_ret2
                      exact ⟨by unfold PlaceV; rw [HX.out, HE.out]; exact ret_place (by omega), below_step HB1.out HBU.out⟩
                    · have HE : Hid (min (ends k p n (l : Int) mx) 2048 = 2048) := by show _ = _; rw [HEN.out]; omega
                      go_wp2
                      go_ret2
                      exact ⟨by unfold PlaceV; rw [HX.out, HE.out]; exact ret_place (by omega), below_step HB1.out HBU.out⟩
                  · have k2 : (k == 2) = false := by simp [h2]
                    have k6 : (k == 6) = false := by simp [h6]
                    have k7 : (k == 7) = false := by simp [h7]
                    have k4 : (k == 4) = false := by simp [h4]
                    have k5 : (k == 5) = false := by simp [h5]
                    have HE : Hid (min (ends k p n mn mx) 2048 = p) := by show _ = _; simp [ends, h2, h6, h7, h4, h5]; omega
                    clear h2 h6 h7 h4 h5
                    go_wp2
                    go_ret2
                    exact ⟨by unfold PlaceV; rw [HX.out, HE.out]; exact ret_place (by omega), below_step HB1.out HBU.out⟩
end Go.Proofs.YtmjnobdlgbojoaaGreatDoor
