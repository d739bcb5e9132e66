/- The document's count and Places of layer 4, and the law's nodes. -/
import Derived.Test.YtjmbimgofceanaaG18
import Derived.Test.YtjmbimgofceanaaG16
namespace Go.Proofs.Ytjmbimgofceanaa
open Go.RowKit
attribute [local go_sem ↓] Go.wp_at_zero Go.wp_at_succ

def endsR (k : Int) (n len : Nat) (mn mx : Int) : Nat := if k = 2 ∨ k = 6 ∨ k = 7 then 1 else if k = 4 then min 4096 (n + len + 1) else if k = 5 then min 4096 (repT n mn.toNat mx).toNat else min 4096 n
mutual
def cnt : Tn → Nat
  | .mk k _ subs mn mx => endsR k (cnts subs 0) subs.length mn mx
def cnts : List Tn → Nat → Nat
  | [], n => n
  | t :: ts, n => cnts ts (min 4096 (n + cnt t))
end
theorem cnt_le (t : Tn) : cnt t ≤ 4096 := by
  cases t with
  | mk k s subs mn mx =>
    rw [cnt]
    unfold endsR
    split
    · decide
    · split
      · exact Nat.min_le_left _ _
      · split
        · exact Nat.min_le_left _ _
        · exact Nat.min_le_left _ _
theorem cnts_step {ts : List Tn} {i : Nat} {t : Tn} (h : ts[i]? = some t) (n : Nat) : cnts (ts.drop i) n = cnts (ts.drop (i + 1)) (min 4096 (n + cnt t)) := by
  have hlt := (List.getElem?_eq_some_iff.1 h).1
  rw [List.drop_eq_getElem_cons hlt, (List.getElem?_eq_some_iff.1 h).2, cnts]
theorem rep_same {n m l : Nat} {x : Int} (h : min n 2048 = min m 2048) (hx : -1 ≤ x) : min (repT n l x).toNat 2048 = min (repT m l x).toNat 2048 := by
  by_cases hs : n = m
  · rw [hs]
  · have hn : 2048 ≤ n := by omega
    have hm : 2048 ≤ m := by omega
    have hn0 : ¬ n = 0 := by omega
    have hm0 : ¬ m = 0 := by omega
    unfold repT
    rw [if_neg hn0, if_neg hm0]
    by_cases h1 : x = -1
    · rw [if_pos h1, if_pos h1]
      have p1 : (0 : Int) ≤ (l : Int) * n := Int.mul_nonneg (by omega) (by omega)
      have p2 : (0 : Int) ≤ (l : Int) * m := Int.mul_nonneg (by omega) (by omega)
      omega
    · rw [if_neg h1, if_neg h1]
      by_cases h2 : (l : Int) < x
      · rw [if_pos h2, if_pos h2]
        have p1 : (1 : Int) * n ≤ x * n := Int.mul_le_mul_of_nonneg_right (by omega) (by omega)
        have p2 : (1 : Int) * m ≤ x * m := Int.mul_le_mul_of_nonneg_right (by omega) (by omega)
        omega
      · rw [if_neg h2, if_neg h2]
        by_cases h3 : l = 0
        · subst h3; simp
        · have p1 : (1 : Int) * n ≤ (l : Int) * n := Int.mul_le_mul_of_nonneg_right (by omega) (by omega)
          have p2 : (1 : Int) * m ≤ (l : Int) * m := Int.mul_le_mul_of_nonneg_right (by omega) (by omega)
          omega
theorem shaped_five {s : Oct.S} {n : Nat} {mn mx : Int} {k : Int} (h : shapedT k s n mn mx = true) (hk : k = 5) : 0 ≤ mn ∧ mn ≤ 255 ∧ -1 ≤ mx ∧ mx ≤ 255 := by
  subst hk
  unfold shapedT at h
  simp [counted] at h
  omega
theorem plcs_sub {ts : List Tn} {n m : Nat} (h : plcs ts n = some m) : ∀ t ∈ ts, (plc t).2 = true := by
  induction ts generalizing n with
  | nil => intro t ht; simp at ht
  | cons t ts ih =>
    rw [plcs] at h
    intro u hu
    cases hp : (plc t).2 with
    | false => rw [hp] at h; cases h
    | true =>
      rw [hp, if_pos rfl] at h
      rcases List.mem_cons.1 hu with rfl | hu
      · exact hp
      · exact ih h u hu
mutual
theorem cnt_plc : ∀ t : Tn, (plc t).2 = true → min (cnt t) 2048 = (plc t).1
  | .mk k s subs mn mx, h => by
    rw [plc] at h ⊢
    rw [cnt]
    cases hsh : shapedT k s subs.length mn mx with
    | false => rw [hsh] at h; cases h
    | true =>
      rw [hsh, if_pos rfl] at h
      rw [if_pos rfl]
      cases hp : plcs subs 0 with
      | none => rw [hp] at h; cases h
      | some p =>
        have hc := cnts_plc subs 0 0 p rfl hp
        simp only
        unfold endsR ends
        by_cases h1 : k = 2 ∨ k = 6 ∨ k = 7
        · rw [if_pos h1, if_pos h1]
        · rw [if_neg h1, if_neg h1]
          by_cases h2 : k = 4
          · rw [if_pos h2, if_pos h2]; omega
          · rw [if_neg h2, if_neg h2]
            by_cases h3 : k = 5
            · rw [if_pos h3, if_pos h3]
              have h5 := shaped_five hsh h3
              have := rep_same (n := cnts subs 0) (m := p) (l := mn.toNat) (x := mx) (by omega) h5.2.2.1
              omega
            · rw [if_neg h3, if_neg h3]; omega
theorem cnts_plc : ∀ (ts : List Tn) (n m p : Nat), min n 2048 = min m 2048 → plcs ts m = some p → min (cnts ts n) 2048 = min p 2048
  | [], n, m, p, h, hp => by
    rw [plcs] at hp
    cases hp
    rw [cnts]
    exact h
  | t :: ts, n, m, p, h, hp => by
    rw [plcs] at hp
    rw [cnts]
    cases ht : (plc t).2 with
    | false => rw [ht] at hp; cases hp
    | true =>
      rw [ht, if_pos rfl] at hp
      have h1 := cnt_plc t ht
      exact cnts_plc ts _ _ p (by omega) hp
end
theorem mul_le4 {o : Nat} (ho : o ≤ 4096) {m : Int} (h0 : 0 ≤ m) (h1 : m ≤ 255) : 0 ≤ m * (o : Int) ∧ m * (o : Int) ≤ 1044480 := by
  refine ⟨Int.mul_nonneg h0 (by omega), ?_⟩
  have h2 : m * (o : Int) ≤ 255 * (o : Int) := Int.mul_le_mul_of_nonneg_right h1 (by omega)
  omega
set_option maxRecDepth 4000 in
set_option maxHeartbeats 8000000 in
theorem rcount_any {w0 : World} {t : Tn} {x : Nd} (h : InAt w0 t x) (hp : (plc t).2 = true) : ∀ w, Below w0.heap.size w0 w → Calls Try.prog 58 #[x.val] w fun e w' => e = .returned (.int .i64 (cnt t : Nat)) ∧ Below w.heap.size w w' := by
  induction h with
  | mk k s subs mn mx a n c vs hn hl hm hr hs ih =>
    intro w hw
    have HIH : Hid (∀ (i : Nat) (t : Tn) (v : Nd), subs[i]? = some t → vs[i]? = some v → (plc t).2 = true → ∀ w, Below w0.heap.size w0 w → Calls Try.prog 58 #[v.val] w fun e w' => e = .returned (.int .i64 (cnt t : Nat)) ∧ Below w.heap.size w w') := ih
    have HRO : Hid (RowAt (fun _ => True) w0 a vs) := hr
    have HN : Hid (n = subs.length) := hn
    have HL : Hid (vs.length = n) := hl
    have HW : Hid (Below w0.heap.size w0 w) := hw
    have HNB : Hid (NB (w.alloc (.cells #[.int .i64 k, .int .u64 (Oct.word s 0 : Nat), .int .u64 (Oct.word s 1 : Nat), .int .u64 (Oct.word s 2 : Nat), .int .u64 (Oct.word s 3 : Nat), .slice a n c, .int .i64 mn, .int .i64 mx] 30)) w.heap.size ⟨k, s, a, n, c, mn, mx⟩) := nb_new w ⟨k, s, a, n, c, mn, mx⟩
    have HB1 : Hid (Below w.heap.size w (w.alloc (.cells #[.int .i64 k, .int .u64 (Oct.word s 0 : Nat), .int .u64 (Oct.word s 1 : Nat), .int .u64 (Oct.word s 2 : Nat), .int .u64 (Oct.word s 3 : Nat), .slice a n c, .int .i64 mn, .int .i64 mx] 30))) := (Below.refl _ _).alloc (Nat.le_refl _) _
    obtain ⟨w1, hw1⟩ : ∃ w1, w1 = w.alloc (.cells #[.int .i64 k, .int .u64 (Oct.word s 0 : Nat), .int .u64 (Oct.word s 1 : Nat), .int .u64 (Oct.word s 2 : Nat), .int .u64 (Oct.word s 3 : Nat), .slice a n c, .int .i64 mn, .int .i64 mx] 30) := ⟨_, rfl⟩
    rw [← hw1] at HNB HB1
    obtain ⟨A, hA⟩ : ∃ A, A = w.heap.size := ⟨_, rfl⟩
    rw [← hA] at HNB
    have HAA : Hid (A = w.heap.size) := hA
    have HW1 : Hid (w.alloc (.cells #[.int .i64 k, .int .u64 (Oct.word s 0 : Nat), .int .u64 (Oct.word s 1 : Nat), .int .u64 (Oct.word s 2 : Nat), .int .u64 (Oct.word s 3 : Nat), .slice a n c, .int .i64 mn, .int .i64 mx] 30) = w1) := hw1.symm
    have hps : shapedT k s n mn mx = true ∧ ∀ t ∈ subs, (plc t).2 = true := by
      rw [plc_snd, ← hn] at hp
      simp only [Bool.and_eq_true, List.all_eq_true] at hp
      exact hp
    have HSH : Hid (shapedT k s n mn mx = true) := hps.1
    have HPS : Hid (∀ t ∈ subs, (plc t).2 = true) := hps.2
    obtain ⟨C, hC⟩ : ∃ C, C = cnt (.mk k s subs mn mx) := ⟨_, rfl⟩
    rw [← hC]
    have HC : Hid (C = endsR k (cnts subs 0) n mn mx) := by show _ = _; rw [hC, cnt, hn]
    clear hps hC hp
    clear hw hw1 hA hn hl hr hs ih
    obtain ⟨b0, b1, b2, b3, b4, b5, b6, b7⟩ := HNB.out.cells
    simp only at b0 b1 b2 b3 b4 b5 b6 b7
    unfold Nd.val
    simp only
    go_enter Try.func58, Try.ntmps58
    go_upto_region 1 with fail
    rw [HW1.out, ← HAA.out]
    clear HW1
    go_wp2_with fail
    go_loopw [3, 4] (fun v i u => ∃ (m p : Nat), v = .int .i64 (p : Nat) ∧ i = .int .i64 (m : Nat) ∧ m ≤ n ∧ p ≤ 4096 ∧ Hid (cnts subs 0 = cnts (subs.drop m) p) ∧ Hid (Below w1.heap.size w1 u)) (fun _ i _ => n - (intOf i).toNat)
    case atStart => exact ⟨0, 0, rfl, rfl, Nat.zero_le _, by decide, by show _ = _; rfl, Below.refl _ _⟩
    case round =>
        clear b0 b1 b2 b3 b4 b5 b6 b7
        obtain ⟨m, p, rfl, rfl, hmn, hp4, HCS, HBU⟩ := hrel
        obtain ⟨b0, b1, b2, b3, b4, b5, b6, b7⟩ := (HNB.out.later HBU.out).cells
        simp only at b0 b1 b2 b3 b4 b5 b6 b7
        by_cases hlt : m < n
        · obtain ⟨t, ht⟩ : ∃ t, subs[m]? = some t := ⟨_, List.getElem?_eq_getElem (by rw [← HN.out]; exact hlt)⟩
          obtain ⟨v, hv⟩ : ∃ v, vs[m]? = some v := ⟨_, List.getElem?_eq_getElem (by rw [HL.out]; exact hlt)⟩
          have HW0 : Hid (Below w0.heap.size w0 wr) := below_step (below_step HW.out HB1.out) HBU.out
          have hrow := (HRO.out.keep (Y := fun _ => True) (fun _ h _ => h) (fun b _ hlt => HW0.out.block b hlt)).nth hv
          obtain ⟨g, off, rfl, e0, e1, e2, e3, e4, e5, e6, e7⟩ := hrow
          have HCALL : Hid (∀ u, Below w0.heap.size w0 u → Calls Try.prog 58 #[v.val] u fun e w' => e = .returned (.int .i64 (cnt t : Nat)) ∧ Below u.heap.size u w') := HIH.out m t v ht hv (HPS.out t (List.mem_of_getElem? ht))
          have HSTEP : Hid (cnts subs 0 = cnts (subs.drop (m + 1)) (min 4096 (p + cnt t))) := by show _ = _; rw [HCS.out]; exact cnts_step ht p
          have HLE := cnt_le t
          obtain ⟨q, hq⟩ : ∃ q, q = cnt t := ⟨_, rfl⟩
          rw [← hq] at HLE HSTEP HCALL
          clear hq ht hv
          have HCL := HCALL.out wr HW0.out
          unfold Nd.val at HCL
          have HCC : Hid (Calls Try.prog 58 _ wr _) := HCL
          clear HCL HCALL
          go_wp2_with fail
          refine HCC.out.mono ?_
          rintro e w4 ⟨rfl, k4⟩
          have HB4 : Hid (Below w1.heap.size w1 w4) := below_step HBU.out k4
          clear k4 HCC e0 e1 e2 e3 e4 e5 e6 e7
          by_cases hle : p + q ≤ 4096
          · have HM : Hid (min 4096 (p + q) = p + q) := Nat.min_eq_right hle
            have g1 : (p : Int) + (q : Int) ≤ 4096 := by omega
            go_wp2
            go_roundw
            case rel => exact ⟨m + 1, p + q, by go_num, by go_num, by omega, by omega, by show _ = _; rw [HSTEP.out, HM.out], HB4.out⟩
            case measure => simp [intOf]; omega
          · have HM : Hid (min 4096 (p + q) = 4096) := Nat.min_eq_left (by omega)
            have g1 : ¬ (p : Int) + (q : Int) ≤ 4096 := by omega
            go_wp2
            go_roundw
            case rel => exact ⟨m + 1, 4096, by go_num, by go_num, by omega, by omega, by show _ = _; rw [HSTEP.out, HM.out], HB4.out⟩
            case measure => simp [intOf]; omega
        · have HP : Hid (cnts subs 0 = p) := by show _ = _; rw [HCS.out, List.drop_eq_nil_of_le (by rw [← HN.out]; omega), cnts]
          have HC2 : Hid (C = endsR k p n mn mx) := by show _ = _; rw [HC.out, HP.out]
          have HBE : Hid (Below w.heap.size w wr) := below_step HB1.out HBU.out
          clear HC HP HCS HIH HRO HPS
          by_cases hk : k = 2
          · have HE : Hid (C = 1) := by show _ = _; rw [HC2.out]; simp [endsR, hk]
            have q2 : (k == 2) = true := by simp [hk]
            have q6 : (k == 6) = false := by simp [hk]
            have q7 : (k == 7) = false := by simp [hk]
            have q4 : (k == 4) = false := by simp [hk]
            have q5 : (k == 5) = false := by simp [hk]
            clear hk
            go_wp2
            go_ret
            exact ⟨ret_int (by rw [HE.out]; rfl), HBE.out⟩
          have n2 := hk
          clear hk
          by_cases hk : k = 6
          · have HE : Hid (C = 1) := by show _ = _; rw [HC2.out]; simp [endsR, hk]
            have q2 : (k == 2) = false := by simp [hk]
            have q6 : (k == 6) = true := by simp [hk]
            have q7 : (k == 7) = false := by simp [hk]
            have q4 : (k == 4) = false := by simp [hk]
            have q5 : (k == 5) = false := by simp [hk]
            clear hk
            go_wp2
            go_ret
            exact ⟨ret_int (by rw [HE.out]; rfl), HBE.out⟩
          have n6 := hk
          clear hk
          by_cases hk : k = 7
          · have HE : Hid (C = 1) := by show _ = _; rw [HC2.out]; simp [endsR, hk]
            have q2 : (k == 2) = false := by simp [hk]
            have q6 : (k == 6) = false := by simp [hk]
            have q7 : (k == 7) = true := by simp [hk]
            have q4 : (k == 4) = false := by simp [hk]
            have q5 : (k == 5) = false := by simp [hk]
            clear hk
            go_wp2
            go_ret
            exact ⟨ret_int (by rw [HE.out]; rfl), HBE.out⟩
          have n7 := hk
          clear hk
          have HK3 : Hid (¬ (k = 2 ∨ k = 6 ∨ k = 7)) := by show ¬ _; omega
          by_cases hk : k = 4
          · have HE : Hid (C = min 4096 (p + n + 1)) := by show _ = _; rw [HC2.out]; unfold endsR; rw [if_neg HK3.out, if_pos hk]
            have q2 : (k == 2) = false := by simp [hk]
            have q6 : (k == 6) = false := by simp [hk]
            have q7 : (k == 7) = false := by simp [hk]
            have q4 : (k == 4) = true := by simp [hk]
            have q5 : (k == 5) = false := by simp [hk]
            clear hk n2 n6 n7 HK3
            by_cases hle : p + n + 1 ≤ 4096
            · have HE2 : Hid (C = p + n + 1) := by show _ = _; rw [HE.out]; omega
              have g1 : (p : Int) + (n : Int) + 1 ≤ 4096 := by omega
              go_wp2
              go_ret
              exact ⟨ret_int (by have h := HE2.out; omega), HBE.out⟩
            · have HE2 : Hid (C = 4096) := by show _ = _; rw [HE.out]; omega
              have g1 : ¬ (p : Int) + (n : Int) + 1 ≤ 4096 := by omega
              go_wp2
              go_ret
              exact ⟨ret_int (by have h := HE2.out; omega), HBE.out⟩
          have n4 := hk
          clear hk
          by_cases hk : k = 5
          · skip
            have HE : Hid (C = min 4096 (repT p mn.toNat mx).toNat) := by show _ = _; rw [HC2.out]; unfold endsR; rw [if_neg HK3.out, if_neg n4, if_pos hk]
            obtain ⟨h5a, h5b, h5c, h5d⟩ := shaped_five HSH.out hk
            have q2 : (k == 2) = false := by simp [hk]
            have q6 : (k == 6) = false := by simp [hk]
            have q7 : (k == 7) = false := by simp [hk]
            have q4 : (k == 4) = false := by simp [hk]
            have q5 : (k == 5) = true := by simp [hk]
            clear hk n2 n6 n7 n4 HK3 HC2
            have hmt : ((mn.toNat : Nat) : Int) = mn := by omega
            by_cases hp0 : p = 0
            · have HE2 : Hid (C = 0) := by show _ = _; rw [HE.out]; simp [repT, hp0]
              have g0 : ((p : Int) == 0) = true := by simp [hp0]
              clear hp0
              go_wp2
              go_ret
              exact ⟨ret_int (by have h := HE2.out; omega), HBE.out⟩
            · have g0 : ((p : Int) == 0) = false := by simp [hp0]
              obtain ⟨p1, p2⟩ := mul_le4 hp4 h5a h5b
              by_cases hx1 : mx = -1
              · have g1 : (mx == -1) = true := by simp [hx1]
                have HE1 : Hid (C = min 4096 (mn * (p : Int) + p + 2).toNat) := by show _ = _; rw [HE.out, repT, if_neg hp0, if_pos hx1, hmt]
                obtain ⟨Y, hY⟩ : ∃ Y : Int, Y = mn * (p : Int) := ⟨_, rfl⟩
                rw [← hY] at HE1 p1 p2
                have HY : Hid (mn * (p : Int) = Y) := hY.symm
                clear hY HE hp0
                by_cases hle : Y + p + 2 ≤ 4096
                · have HE2 : Hid ((C : Int) = Y + p + 2) := by show _ = _; rw [HE1.out]; omega
                  have hYY := HY.out
                  go_wp2
                  go_ret
                  exact ⟨ret_int (by have h := HE2.out; omega), HBE.out⟩
                · have HE2 : Hid ((C : Int) = 4096) := by show _ = _; rw [HE1.out]; omega
                  have hYY := HY.out
                  go_wp2
                  go_ret
                  exact ⟨ret_int (by have h := HE2.out; omega), HBE.out⟩
              · have g1 : (mx == -1) = false := by simp [hx1]
                by_cases hx2 : mn < mx
                · obtain ⟨p3, p4⟩ := mul_le4 hp4 (m := mx - mn) (by omega) (by omega)
                  have hsum : mx * (p : Int) = mn * (p : Int) + (mx - mn) * (p : Int) := by rw [Int.sub_mul]; omega
                  have HE1 : Hid (C = min 4096 (mn * (p : Int) + (mx - mn) * (p : Int) + 1).toNat) := by show _ = _; rw [HE.out, repT, if_neg hp0, if_neg hx1, hmt, if_pos hx2, hsum]
                  obtain ⟨Y, hY⟩ : ∃ Y : Int, Y = mn * (p : Int) := ⟨_, rfl⟩
                  obtain ⟨U, hU⟩ : ∃ U : Int, U = (mx - mn) * (p : Int) := ⟨_, rfl⟩
                  rw [← hY, ← hU] at HE1
                  rw [← hY] at p1 p2
                  rw [← hU] at p3 p4
                  have HY : Hid (mn * (p : Int) = Y) := hY.symm
                  have HUU : Hid ((mx - mn) * (p : Int) = U) := hU.symm
                  clear hY hU HE hp0 hsum hx1
                  by_cases hle : Y + U + 1 ≤ 4096
                  · have HE2 : Hid ((C : Int) = Y + U + 1) := by show _ = _; rw [HE1.out]; omega
                    have hYY := HY.out
                    have hUU := HUU.out
                    go_wp2
                    go_ret
                    exact ⟨ret_int (by have h := HE2.out; omega), HBE.out⟩
                  · have HE2 : Hid ((C : Int) = 4096) := by show _ = _; rw [HE1.out]; omega
                    have hYY := HY.out
                    have hUU := HUU.out
                    go_wp2
                    go_ret
                    exact ⟨ret_int (by have h := HE2.out; omega), HBE.out⟩
                · have HE1 : Hid (C = min 4096 (mn * (p : Int)).toNat) := by show _ = _; rw [HE.out, repT, if_neg hp0, if_neg hx1, hmt, if_neg hx2]
                  obtain ⟨Y, hY⟩ : ∃ Y : Int, Y = mn * (p : Int) := ⟨_, rfl⟩
                  rw [← hY] at HE1 p1 p2
                  have HY : Hid (mn * (p : Int) = Y) := hY.symm
                  clear hY HE hp0 hx1
                  by_cases hle : Y ≤ 4096
                  · have HE2 : Hid ((C : Int) = Y) := by show _ = _; rw [HE1.out]; omega
                    have hYY := HY.out
                    go_wp2
                    go_ret
                    exact ⟨ret_int (by have h := HE2.out; omega), HBE.out⟩
                  · have HE2 : Hid ((C : Int) = 4096) := by show _ = _; rw [HE1.out]; omega
                    have hYY := HY.out
                    go_wp2
                    go_ret
                    exact ⟨ret_int (by have h := HE2.out; omega), HBE.out⟩
          · have HE : Hid (C = min 4096 p) := by show _ = _; rw [HC2.out]; unfold endsR; rw [if_neg HK3.out, if_neg n4, if_neg hk]
            have HE2 : Hid (C = p) := by show _ = _; rw [HE.out]; omega
            have q2 : (k == 2) = false := by simp [n2]
            have q6 : (k == 6) = false := by simp [n6]
            have q7 : (k == 7) = false := by simp [n7]
            have q4 : (k == 4) = false := by simp [n4]
            have q5 : (k == 5) = false := by simp [hk]
            have g1 : (p : Int) ≤ 4096 := by omega
            clear hk n2 n6 n7 n4 HK3 HC2
            go_wp2
            go_ret
            exact ⟨ret_int (by have h := HE2.out; omega), HBE.out⟩
theorem placesOf_cnt (t : Tn) (h : (plc t).2 = true) : placesOf t = min 2048 (cnt t) + 1 := by
  have := cnt_plc t h
  unfold placesOf
  rw [h, if_pos rfl]
  omega
set_option maxHeartbeats 2000000 in
theorem rPlaces_any {t : Tn} {x : Nd} (w : World) (h : InAt w t x) : Calls Try.prog 38 #[x.val] w fun e w' => e = .returned (.int .i64 (placesOf t : Nat)) ∧ Below w.heap.size w w' := by
  have HIS : Hid (∀ u, Below w.heap.size w u → Calls Try.prog 37 #[x.val] u fun e w' => e = .returned (.bool (plc t).2) ∧ Below u.heap.size u w') := fun u hu => isR_any h u hu
  have HCN : Hid ((plc t).2 = true → ∀ u, Below w.heap.size w u → Calls Try.prog 58 #[x.val] u fun e w' => e = .returned (.int .i64 (cnt t : Nat)) ∧ Below u.heap.size u w') := fun hp u hu => rcount_any h hp u hu
  obtain ⟨w1, hw1⟩ : ∃ w1, w1 = w.alloc (.cells #[.int .i64 x.k, .int .u64 (Oct.word x.s 0 : Nat), .int .u64 (Oct.word x.s 1 : Nat), .int .u64 (Oct.word x.s 2 : Nat), .int .u64 (Oct.word x.s 3 : Nat), .slice x.a x.n x.c, .int .i64 x.mn, .int .i64 x.mx] 30) := ⟨_, rfl⟩
  have HNB : Hid (NB w1 w.heap.size x) := by rw [hw1]; exact nb_new w x
  have HB1 : Hid (Below w.heap.size w w1) := by rw [hw1]; exact (Below.refl _ _).alloc (Nat.le_refl _) _
  have HW1 : Hid (w.alloc (.cells #[.int .i64 x.k, .int .u64 (Oct.word x.s 0 : Nat), .int .u64 (Oct.word x.s 1 : Nat), .int .u64 (Oct.word x.s 2 : Nat), .int .u64 (Oct.word x.s 3 : Nat), .slice x.a x.n x.c, .int .i64 x.mn, .int .i64 x.mx] 30) = w1) := hw1.symm
  obtain ⟨A, hA⟩ : ∃ A, A = w.heap.size := ⟨_, rfl⟩
  rw [← hA] at HNB
  have HAA : Hid (A = w.heap.size) := hA
  have HPO : Hid ((plc t).2 = true → placesOf t = min 2048 (cnt t) + 1) := placesOf_cnt t
  have HPN : Hid ((plc t).2 = false → placesOf t = 0) := fun h => by show _ = _; unfold placesOf; rw [h]; rfl
  have hcl := cnt_le t
  obtain ⟨P, hP⟩ : ∃ P, P = placesOf t := ⟨_, rfl⟩
  obtain ⟨C, hC⟩ : ∃ C, C = cnt t := ⟨_, rfl⟩
  rw [← hP] at HPO HPN ⊢
  rw [← hC] at HPO HCN hcl
  clear hw1 hA h hP hC
  obtain ⟨b0, b1, b2, b3, b4, b5, b6, b7⟩ := HNB.out.cells
  unfold Nd.val at HIS HCN ⊢
  go_enter Try.func38, Try.ntmps38
  go_upto_region 1 with fail
  rw [HW1.out, ← HAA.out]
  clear HW1
  go_wp2_with fail
  refine (HIS.out _ HB1.out).mono ?_
  rintro e w2 ⟨rfl, k2⟩
  have HB2 : Hid (Below w1.heap.size w1 w2) := k2
  clear k2 HIS b0 b1 b2 b3 b4 b5 b6 b7
  cases hp : (plc t).2 with
  | false =>
    have HE : Hid (P = 0) := HPN.out hp
    clear hp
    go_wp2
    go_ret
    exact ⟨ret_int (by rw [HE.out]; rfl), below_step HB1.out HB2.out⟩
  | true =>
    have HE : Hid (P = min 2048 C + 1) := HPO.out hp
    have HCN2 : Hid (∀ u, Below w.heap.size w u → Calls Try.prog 58 _ u fun e w' => e = .returned (.int .i64 (C : Nat)) ∧ Below u.heap.size u w') := HCN.out hp
    clear hp HCN
    obtain ⟨b0, b1, b2, b3, b4, b5, b6, b7⟩ := (HNB.out.later HB2.out).cells
    go_wp2_with fail
    refine (HCN2.out _ (below_step HB1.out HB2.out)).mono ?_
    rintro e w3 ⟨rfl, k3⟩
    have HB3 : Hid (Below w.heap.size w w3) := below_step (below_step HB1.out HB2.out) k3
    clear k3 b0 b1 b2 b3 b4 b5 b6 b7
    by_cases hle : C ≤ 2048
    · have g1 : (C : Int) ≤ 2048 := by omega
      have HE2 : Hid ((P : Int) = C + 1) := by show _ = _; rw [HE.out]; omega
      go_wp2
      go_ret
      exact ⟨ret_int (by have h := HE2.out; omega), HB3.out⟩
    · have g1 : ¬ (C : Int) ≤ 2048 := by omega
      have HE2 : Hid ((P : Int) = 2049) := by show _ = _; rw [HE.out]; omega
      go_wp2
      go_ret
      exact ⟨ret_int (by have h := HE2.out; omega), HB3.out⟩
mutual
def siz : Tn → Nat
  | .mk _ _ subs _ _ => 1 + sizs subs
def sizs : List Tn → Nat
  | [] => 0
  | t :: ts => siz t + sizs ts
end
mutual
def nds : Tn → Nat
  | .mk _ _ subs _ _ => ndl subs 1
def ndl : List Tn → Nat → Nat
  | [], n => n
  | t :: ts, n => if n ≤ 3000 then ndl ts (n + nds t) else n
end
mutual
theorem nds_le : ∀ t : Tn, nds t ≤ siz t
  | .mk k s subs mn mx => by rw [nds, siz]; exact ndl_le subs 1
theorem ndl_le : ∀ (ts : List Tn) (n : Nat), ndl ts n ≤ n + sizs ts
  | [], n => by rw [ndl, sizs]; exact Nat.le_refl _
  | t :: ts, n => by
    rw [ndl, sizs]
    split
    · have h1 := nds_le t
      have h2 := ndl_le ts (n + nds t)
      omega
    · omega
end
theorem ndl_step {ts : List Tn} {i : Nat} {t : Tn} (h : ts[i]? = some t) (n : Nat) : ndl (ts.drop i) n = if n ≤ 3000 then ndl (ts.drop (i + 1)) (n + nds t) else n := by
  have hlt := (List.getElem?_eq_some_iff.1 h).1
  rw [List.drop_eq_getElem_cons hlt, (List.getElem?_eq_some_iff.1 h).2, ndl]
theorem sizs_step {ts : List Tn} {i : Nat} {t : Tn} (h : ts[i]? = some t) : sizs (ts.drop i) = siz t + sizs (ts.drop (i + 1)) := by
  have hlt := (List.getElem?_eq_some_iff.1 h).1
  rw [List.drop_eq_getElem_cons hlt, (List.getElem?_eq_some_iff.1 h).2, sizs]
set_option maxRecDepth 4000 in
set_option maxHeartbeats 8000000 in
theorem nodes_any {w0 : World} {t : Tn} {x : Nd} (h : InAt w0 t x) (hz : siz t ≤ 2000000) : ∀ w, Below w0.heap.size w0 w → Calls Try.prog 17 #[x.val] w fun e w' => e = .returned (.int .i64 (nds t : Nat)) ∧ Below w.heap.size w w' := by
  induction h with
  | mk k s subs mn mx a n c vs hn hl hm hr hs ih =>
    intro w hw
    have HIH : Hid (∀ (i : Nat) (t : Tn) (v : Nd), subs[i]? = some t → vs[i]? = some v → siz t ≤ 2000000 → ∀ w, Below w0.heap.size w0 w → Calls Try.prog 17 #[v.val] w fun e w' => e = .returned (.int .i64 (nds t : Nat)) ∧ Below w.heap.size w w') := ih
    have HRO : Hid (RowAt (fun _ => True) w0 a vs) := hr
    have HN : Hid (n = subs.length) := hn
    have HL : Hid (vs.length = n) := hl
    have HW : Hid (Below w0.heap.size w0 w) := hw
    have HNB : Hid (NB (w.alloc (.cells #[.int .i64 k, .int .u64 (Oct.word s 0 : Nat), .int .u64 (Oct.word s 1 : Nat), .int .u64 (Oct.word s 2 : Nat), .int .u64 (Oct.word s 3 : Nat), .slice a n c, .int .i64 mn, .int .i64 mx] 30)) w.heap.size ⟨k, s, a, n, c, mn, mx⟩) := nb_new w ⟨k, s, a, n, c, mn, mx⟩
    have HB1 : Hid (Below w.heap.size w (w.alloc (.cells #[.int .i64 k, .int .u64 (Oct.word s 0 : Nat), .int .u64 (Oct.word s 1 : Nat), .int .u64 (Oct.word s 2 : Nat), .int .u64 (Oct.word s 3 : Nat), .slice a n c, .int .i64 mn, .int .i64 mx] 30))) := (Below.refl _ _).alloc (Nat.le_refl _) _
    obtain ⟨w1, hw1⟩ : ∃ w1, w1 = w.alloc (.cells #[.int .i64 k, .int .u64 (Oct.word s 0 : Nat), .int .u64 (Oct.word s 1 : Nat), .int .u64 (Oct.word s 2 : Nat), .int .u64 (Oct.word s 3 : Nat), .slice a n c, .int .i64 mn, .int .i64 mx] 30) := ⟨_, rfl⟩
    rw [← hw1] at HNB HB1
    obtain ⟨A, hA⟩ : ∃ A, A = w.heap.size := ⟨_, rfl⟩
    rw [← hA] at HNB
    have HAA : Hid (A = w.heap.size) := hA
    have HW1 : Hid (w.alloc (.cells #[.int .i64 k, .int .u64 (Oct.word s 0 : Nat), .int .u64 (Oct.word s 1 : Nat), .int .u64 (Oct.word s 2 : Nat), .int .u64 (Oct.word s 3 : Nat), .slice a n c, .int .i64 mn, .int .i64 mx] 30) = w1) := hw1.symm
    have HZ : Hid (1 + sizs subs ≤ 2000000) := by show _ ≤ _; rw [siz] at hz; exact hz
    obtain ⟨C, hC⟩ : ∃ C, C = nds (.mk k s subs mn mx) := ⟨_, rfl⟩
    rw [← hC]
    have HC : Hid (C = ndl subs 1) := by show _ = _; rw [hC, nds]
    clear hC hz
    clear hw hw1 hA hn hl hr hs ih
    obtain ⟨b0, b1, b2, b3, b4, b5, b6, b7⟩ := HNB.out.cells
    simp only at b0 b1 b2 b3 b4 b5 b6 b7
    unfold Nd.val
    simp only
    go_enter Try.func17, Try.ntmps17
    go_upto_region 1 with fail
    rw [HW1.out, ← HAA.out]
    clear HW1
    go_wp2_with fail
    go_loopw [3, 4] (fun v i u => ∃ (m p : Nat), v = .int .i64 (p : Nat) ∧ i = .int .i64 (m : Nat) ∧ m ≤ n ∧ p ≤ 2000000 ∧ Hid (p + sizs (subs.drop m) ≤ 2000000) ∧ Hid (C = ndl (subs.drop m) p) ∧ Hid (Below w1.heap.size w1 u)) (fun _ i _ => n - (intOf i).toNat)
    case atStart => exact ⟨0, 1, rfl, rfl, Nat.zero_le _, by decide, HZ, HC, Below.refl _ _⟩
    case round =>
        clear b0 b1 b2 b3 b4 b5 b6 b7 HC HZ
        obtain ⟨m, p, rfl, rfl, hmn, hp4, HZZ, HCS, HBU⟩ := hrel
        obtain ⟨b0, b1, b2, b3, b4, b5, b6, b7⟩ := (HNB.out.later HBU.out).cells
        simp only at b0 b1 b2 b3 b4 b5 b6 b7
        have HBE : Hid (Below w.heap.size w wr) := below_step HB1.out HBU.out
        by_cases hlt : m < n
        · obtain ⟨t, ht⟩ : ∃ t, subs[m]? = some t := ⟨_, List.getElem?_eq_getElem (by rw [← HN.out]; exact hlt)⟩
          obtain ⟨v, hv⟩ : ∃ v, vs[m]? = some v := ⟨_, List.getElem?_eq_getElem (by rw [HL.out]; exact hlt)⟩
          have HW0 : Hid (Below w0.heap.size w0 wr) := below_step (below_step HW.out HB1.out) HBU.out
          have hrow := (HRO.out.keep (Y := fun _ => True) (fun _ h _ => h) (fun b _ hlt => HW0.out.block b hlt)).nth hv
          obtain ⟨g, off, rfl, e0, e1, e2, e3, e4, e5, e6, e7⟩ := hrow
          have hlt' : (m : Int) < (n : Int) := by omega
          have HST : Hid (sizs (subs.drop m) = siz t + sizs (subs.drop (m + 1))) := sizs_step ht
          have HNL := nds_le t
          have HZT : Hid (siz t ≤ 2000000) := by have h1 := HZZ.out; have h2 := HST.out; show _ ≤ _; omega
          have HCALL : Hid (∀ u, Below w0.heap.size w0 u → Calls Try.prog 17 #[v.val] u fun e w' => e = .returned (.int .i64 (nds t : Nat)) ∧ Below u.heap.size u w') := HIH.out m t v ht hv HZT.out
          have HSTEP : Hid (C = if p ≤ 3000 then ndl (subs.drop (m + 1)) (p + nds t) else p) := by show _ = _; rw [HCS.out]; exact ndl_step ht p
          obtain ⟨q, hq⟩ : ∃ q, q = nds t := ⟨_, rfl⟩
          rw [← hq] at HNL HSTEP HCALL
          have hqz : q ≤ 2000000 := by have := HZT.out; omega
          have HZ2 : Hid (p + q + sizs (subs.drop (m + 1)) ≤ 2000000) := by have h1 := HZZ.out; have h2 := HST.out; show _ ≤ _; omega
          have hpq : p + q ≤ 2000000 := by have := HZ2.out; omega
          clear hq ht hv HNL HST
          by_cases hle : p ≤ 3000
          · have g1 : (p : Int) ≤ 3000 := by omega
            have HS2 : Hid (C = ndl (subs.drop (m + 1)) (p + q)) := by show _ = _; rw [HSTEP.out, if_pos hle]
            have HCL := HCALL.out wr HW0.out
            unfold Nd.val at HCL
            have HCC : Hid (Calls Try.prog 17 _ wr _) := HCL
            clear HCL HCALL HSTEP
            go_wp2_with fail
            refine HCC.out.mono ?_
            rintro e w4 ⟨rfl, k4⟩
            have HB4 : Hid (Below w1.heap.size w1 w4) := below_step HBU.out k4
            clear k4 HCC e0 e1 e2 e3 e4 e5 e6 e7
            go_wp2
            go_roundw
            case rel => exact ⟨m + 1, p + q, by go_num, by go_num, by omega, hpq, HZ2, HS2, HB4.out⟩
            case measure => simp [intOf]; omega
          · have g1 : ¬ (p : Int) ≤ 3000 := by omega
            have HE : Hid (C = p) := by show _ = _; rw [HSTEP.out, if_neg hle]
            clear HCALL HSTEP
            go_wp2
            go_ret
            exact ⟨ret_int (by rw [HE.out]), HBE.out⟩
        · have hlt' : ¬ (m : Int) < (n : Int) := by omega
          have HE : Hid (C = p) := by show _ = _; rw [HCS.out, List.drop_eq_nil_of_le (by rw [← HN.out]; omega), ndl]
          clear HCS HIH HRO
          go_wp2
          go_ret
          exact ⟨ret_int (by rw [HE.out]), HBE.out⟩
end Go.Proofs.Ytjmbimgofceanaa
