/- heronref04.Is, walked: of any node, what ere's own places asks. -/
import Derived.Test.YtjmbimgofceanaaG17
import Derived.Deep.DeepCutAuto
namespace Go.Proofs.Ytjmbimgofceanaa
open Go.RowKit
attribute [local go_sem ↓] Go.wp_at_zero Go.wp_at_succ

theorem plcs_some {ts : List Tn} : ∀ n, (plcs ts n).isSome = ts.all (fun t => (plc t).2) := by
  induction ts with
  | nil => intro n; rw [plcs]; rfl
  | cons t ts ih =>
    intro n
    rw [plcs, List.all_cons]
    cases (plc t).2 with
    | true => rw [if_pos rfl, ih, Bool.true_and]
    | false => rfl
theorem plc_snd (k : Int) (s : Oct.S) (subs : List Tn) (mn mx : Int) : (plc (.mk k s subs mn mx)).2 = (shapedT k s subs.length mn mx && subs.all (fun t => (plc t).2)) := by
  rw [plc, ← plcs_some 0]
  cases shapedT k s subs.length mn mx with
  | false => rfl
  | true =>
    rw [if_pos rfl]
    cases plcs subs 0 <;> rfl
theorem ten_rem (s : Oct.S) : ((Oct.word s 0 : Int) / 1024 % 2 == 0) = !(s 10) := by
  have hw := Oct.word_has s 10
  have e : ((Oct.word s 0 : Nat) : Int) / 1024 % 2 = ((Oct.word s (10 / 64) / 2 ^ (10 % 64) % 2 : Nat) : Int) := by simp
  rw [e, hw]
  cases s 10 <;> rfl
def noneB (s : Oct.S) (mn mx : Int) : Bool := noSet s && decide (mn = 0) && decide (mx = 0)
set_option maxRecDepth 4000 in
set_option maxHeartbeats 8000000 in
theorem isR_any {w0 : World} {t : Tn} {x : Nd} (h : InAt w0 t x) : ∀ w, Below w0.heap.size w0 w → Calls Try.prog 37 #[x.val] w fun e w' => e = .returned (.bool (plc t).2) ∧ Below w.heap.size w w' := by
  induction h with
  | mk k s subs mn mx a n c vs hn hl hm hr hs ih =>
    intro w hw
    have HIH : Hid (∀ (i : Nat) (t : Tn) (v : Nd), subs[i]? = some t → vs[i]? = some v → ∀ w, Below w0.heap.size w0 w → Calls Try.prog 37 #[v.val] w fun e w' => e = .returned (.bool (plc t).2) ∧ Below w.heap.size w w') := ih
    have HRO : Hid (RowAt (fun _ => True) w0 a vs) := hr
    have HN : Hid (n = subs.length) := hn
    have HL : Hid (vs.length = n) := hl
    have HW : Hid (Below w0.heap.size w0 w) := hw
    obtain ⟨R, hR⟩ : ∃ R, R = (plc (.mk k s subs mn mx)).2 := ⟨_, rfl⟩
    rw [← hR]
    have HR : Hid (R = (shapedT k s n mn mx && subs.all (fun t => (plc t).2))) := by show _ = _; rw [hR, plc_snd, hn]
    have HNB : Hid (NB (w.alloc (.cells #[.int .i64 k, .int .u64 (Oct.word s 0 : Nat), .int .u64 (Oct.word s 1 : Nat), .int .u64 (Oct.word s 2 : Nat), .int .u64 (Oct.word s 3 : Nat), .slice a n c, .int .i64 mn, .int .i64 mx] 30)) w.heap.size ⟨k, s, a, n, c, mn, mx⟩) := nb_new w ⟨k, s, a, n, c, mn, mx⟩
    have HB1 : Hid (Below w.heap.size w (w.alloc (.cells #[.int .i64 k, .int .u64 (Oct.word s 0 : Nat), .int .u64 (Oct.word s 1 : Nat), .int .u64 (Oct.word s 2 : Nat), .int .u64 (Oct.word s 3 : Nat), .slice a n c, .int .i64 mn, .int .i64 mx] 30))) := (Below.refl _ _).alloc (Nat.le_refl _) _
    obtain ⟨w1, hw1⟩ : ∃ w1, w1 = w.alloc (.cells #[.int .i64 k, .int .u64 (Oct.word s 0 : Nat), .int .u64 (Oct.word s 1 : Nat), .int .u64 (Oct.word s 2 : Nat), .int .u64 (Oct.word s 3 : Nat), .slice a n c, .int .i64 mn, .int .i64 mx] 30) := ⟨_, rfl⟩
    rw [← hw1] at HNB HB1
    obtain ⟨A, hA⟩ : ∃ A, A = w.heap.size := ⟨_, rfl⟩
    rw [← hA] at HNB
    have HAA : Hid (A = w.heap.size) := hA
    have HW1 : Hid (w.alloc (.cells #[.int .i64 k, .int .u64 (Oct.word s 0 : Nat), .int .u64 (Oct.word s 1 : Nat), .int .u64 (Oct.word s 2 : Nat), .int .u64 (Oct.word s 3 : Nat), .slice a n c, .int .i64 mn, .int .i64 mx] 30) = w1) := hw1.symm
    have HEQ : Hid (∀ u, (Op.equalIn 10000 27 (.agg #[.int .u64 (Oct.word s 0 : Nat), .int .u64 (Oct.word s 1 : Nat), .int .u64 (Oct.word s 2 : Nat), .int .u64 (Oct.word s 3 : Nat)]) (.agg #[.int .u64 0, .int .u64 0, .int .u64 0, .int .u64 0])).run Try.prog u = .ok (noSet s) u) := fun u => eq4_zero _ _ _ _ u
    have HLEAF : Hid (n = 0 → subs.all (fun t => (plc t).2) = true) := fun h0 => by show _ = _; rw [List.eq_nil_of_length_eq_zero (by rw [← hn]; exact h0 : subs.length = 0)]; rfl
    clear hw hw1 hA hn hl hr hs ih hR
    obtain ⟨b0, b1, b2, b3, b4, b5, b6, b7⟩ := HNB.out.cells
    simp only at b0 b1 b2 b3 b4 b5 b6 b7
    have HE := HEQ.out
    unfold Nd.val
    simp only
    go_enter Try.func37, Try.ntmps37
    go_upto_region 1 with fail
    rw [HW1.out, ← HAA.out]
    clear HW1
    go_cut [3] (fun b wx => b = .bool (noneB s mn mx) ∧ wx = w1)
    case first =>
      cases hns : noSet s with
      | false =>
        have HV : Hid (noneB s mn mx = false) := (show noneB s mn mx = false by unfold noneB; simp [hns])
        rw [hns] at HE
        go_wp2_with fail
        go_meet
        case rel => exact ⟨by rw [HV.out], rfl⟩
      | true =>
        rw [hns] at HE
        by_cases h0 : mn = 0
        · have g0 : (mn == 0) = true := by simp [h0]
          by_cases h1 : mx = 0
          · have g1 : (mx == 0) = true := by simp [h1]
            have HV : Hid (noneB s mn mx = true) := (show noneB s mn mx = true by unfold noneB; simp [hns, h0, h1])
            clear h0 h1
            go_wp2_with fail
            go_meet
            case rel => exact ⟨by rw [HV.out], rfl⟩
          · have g1 : (mx == 0) = false := by simp [h1]
            have HV : Hid (noneB s mn mx = false) := (show noneB s mn mx = false by unfold noneB; simp [h1])
            clear h0 h1
            go_wp2_with fail
            go_meet
            case rel => exact ⟨by rw [HV.out], rfl⟩
        · have g0 : (mn == 0) = false := by simp [h0]
          have HV : Hid (noneB s mn mx = false) := (show noneB s mn mx = false by unfold noneB; simp [h0])
          clear h0
          go_wp2_with fail
          go_meet
          case rel => exact ⟨by rw [HV.out], rfl⟩
    case rest =>
    obtain ⟨rfl, hwc⟩ := hcut
    subst hwc
    by_cases hk3 : k = 1 ∨ k = 6 ∨ k = 7
    · have HRR : Hid (R = (noneB s mn mx && decide (n = 0))) := by
        show _ = _
        rw [HR.out]
        unfold shapedT
        rw [if_pos hk3]
        by_cases h0 : n = 0
        · rw [HLEAF.out h0]; unfold noneB plainT; simp [h0, Bool.and_assoc]
        · simp [h0]
      clear HR HLEAF
      cases hnb : noneB s mn mx with
      | false =>
        rcases hk3 with hk | hk | hk
        · skip
          have q1 : (k == 1) = true := by simp [hk]
          have q6 : (k == 6) = false := by simp [hk]
          have q7 : (k == 7) = false := by simp [hk]
          have q2 : (k == 2) = false := by simp [hk]
          have q3 : (k == 3) = false := by simp [hk]
          have q4 : (k == 4) = false := by simp [hk]
          have q5 : (k == 5) = false := by simp [hk]
          clear hk
          go_wp2
          go_ret
          exact ⟨ret_bool (by rw [HRR.out, hnb]; rfl), HB1.out⟩
        · skip
          have q1 : (k == 1) = false := by simp [hk]
          have q6 : (k == 6) = true := by simp [hk]
          have q7 : (k == 7) = false := by simp [hk]
          have q2 : (k == 2) = false := by simp [hk]
          have q3 : (k == 3) = false := by simp [hk]
          have q4 : (k == 4) = false := by simp [hk]
          have q5 : (k == 5) = false := by simp [hk]
          clear hk
          go_wp2
          go_ret
          exact ⟨ret_bool (by rw [HRR.out, hnb]; rfl), HB1.out⟩
        · skip
          have q1 : (k == 1) = false := by simp [hk]
          have q6 : (k == 6) = false := by simp [hk]
          have q7 : (k == 7) = true := by simp [hk]
          have q2 : (k == 2) = false := by simp [hk]
          have q3 : (k == 3) = false := by simp [hk]
          have q4 : (k == 4) = false := by simp [hk]
          have q5 : (k == 5) = false := by simp [hk]
          clear hk
          go_wp2
          go_ret
          exact ⟨ret_bool (by rw [HRR.out, hnb]; rfl), HB1.out⟩
      | true =>
        by_cases h0 : n = 0
        · have z0 : ((n : Int) == 0) = true := by simp [h0]
          have HD : Hid (decide (n = 0) = true) := decide_eq_true h0
          clear h0
          rcases hk3 with hk | hk | hk
          · skip
            have q1 : (k == 1) = true := by simp [hk]
            have q6 : (k == 6) = false := by simp [hk]
            have q7 : (k == 7) = false := by simp [hk]
            have q2 : (k == 2) = false := by simp [hk]
            have q3 : (k == 3) = false := by simp [hk]
            have q4 : (k == 4) = false := by simp [hk]
            have q5 : (k == 5) = false := by simp [hk]
            clear hk
            go_wp2
            go_ret
            exact ⟨ret_bool (by rw [HRR.out, hnb, HD.out]; rfl), HB1.out⟩
          · skip
            have q1 : (k == 1) = false := by simp [hk]
            have q6 : (k == 6) = true := by simp [hk]
            have q7 : (k == 7) = false := by simp [hk]
            have q2 : (k == 2) = false := by simp [hk]
            have q3 : (k == 3) = false := by simp [hk]
            have q4 : (k == 4) = false := by simp [hk]
            have q5 : (k == 5) = false := by simp [hk]
            clear hk
            go_wp2
            go_ret
            exact ⟨ret_bool (by rw [HRR.out, hnb, HD.out]; rfl), HB1.out⟩
          · skip
            have q1 : (k == 1) = false := by simp [hk]
            have q6 : (k == 6) = false := by simp [hk]
            have q7 : (k == 7) = true := by simp [hk]
            have q2 : (k == 2) = false := by simp [hk]
            have q3 : (k == 3) = false := by simp [hk]
            have q4 : (k == 4) = false := by simp [hk]
            have q5 : (k == 5) = false := by simp [hk]
            clear hk
            go_wp2
            go_ret
            exact ⟨ret_bool (by rw [HRR.out, hnb, HD.out]; rfl), HB1.out⟩
        · have z0 : ((n : Int) == 0) = false := by simp [h0]
          have HD : Hid (decide (n = 0) = false) := decide_eq_false h0
          clear h0
          rcases hk3 with hk | hk | hk
          · skip
            have q1 : (k == 1) = true := by simp [hk]
            have q6 : (k == 6) = false := by simp [hk]
            have q7 : (k == 7) = false := by simp [hk]
            have q2 : (k == 2) = false := by simp [hk]
            have q3 : (k == 3) = false := by simp [hk]
            have q4 : (k == 4) = false := by simp [hk]
            have q5 : (k == 5) = false := by simp [hk]
            clear hk
            go_wp2
            go_ret
            exact ⟨ret_bool (by rw [HRR.out, hnb, HD.out]; rfl), HB1.out⟩
          · skip
            have q1 : (k == 1) = false := by simp [hk]
            have q6 : (k == 6) = true := by simp [hk]
            have q7 : (k == 7) = false := by simp [hk]
            have q2 : (k == 2) = false := by simp [hk]
            have q3 : (k == 3) = false := by simp [hk]
            have q4 : (k == 4) = false := by simp [hk]
            have q5 : (k == 5) = false := by simp [hk]
            clear hk
            go_wp2
            go_ret
            exact ⟨ret_bool (by rw [HRR.out, hnb, HD.out]; rfl), HB1.out⟩
          · skip
            have q1 : (k == 1) = false := by simp [hk]
            have q6 : (k == 6) = false := by simp [hk]
            have q7 : (k == 7) = true := by simp [hk]
            have q2 : (k == 2) = false := by simp [hk]
            have q3 : (k == 3) = false := by simp [hk]
            have q4 : (k == 4) = false := by simp [hk]
            have q5 : (k == 5) = false := by simp [hk]
            clear hk
            go_wp2
            go_ret
            exact ⟨ret_bool (by rw [HRR.out, hnb, HD.out]; rfl), HB1.out⟩
    have n1 : ¬ k = 1 := fun h => hk3 (Or.inl h)
    have n6 : ¬ k = 6 := fun h => hk3 (Or.inr (Or.inl h))
    have n7 : ¬ k = 7 := fun h => hk3 (Or.inr (Or.inr h))
    by_cases hk : k = 2
    · have HRR : Hid (R = (!(s 10) && decide (mn = 0) && decide (mx = 0) && decide (n = 0))) := by
        show _ = _
        rw [HR.out]
        unfold shapedT
        rw [if_neg hk3, if_pos hk]
        by_cases h0 : n = 0
        · rw [HLEAF.out h0]; unfold plainT; simp [h0, Bool.and_assoc]
        · simp [h0]
      clear HR HLEAF hk3 n1 n6 n7
      have q1 : (k == 1) = false := by simp [hk]
      have q6 : (k == 6) = false := by simp [hk]
      have q7 : (k == 7) = false := by simp [hk]
      have q2 : (k == 2) = true := by simp [hk]
      have q3 : (k == 3) = false := by simp [hk]
      have q4 : (k == 4) = false := by simp [hk]
      have q5 : (k == 5) = false := by simp [hk]
      have t10 := ten_rem s
      clear hk
      cases h10 : s 10 with
      | true =>
        rw [h10] at t10
        have t10 : ((Oct.word s 0 : Int) / 1024 % 2 == 0) = false := t10
        go_wp2
        go_ret
        exact ⟨ret_bool (by rw [HRR.out, h10]; rfl), HB1.out⟩
      | false =>
        rw [h10] at t10
        have t10 : ((Oct.word s 0 : Int) / 1024 % 2 == 0) = true := t10
        by_cases h0 : mn = 0
        · have g0 : (mn == 0) = true := by simp [h0]
          have HD0 : Hid (decide (mn = 0) = true) := decide_eq_true h0
          clear h0
          by_cases h1 : mx = 0
          · have g1 : (mx == 0) = true := by simp [h1]
            have HD1 : Hid (decide (mx = 0) = true) := decide_eq_true h1
            clear h1
            by_cases h2 : n = 0
            · have z0 : ((n : Int) == 0) = true := by simp [h2]
              have HD2 : Hid (decide (n = 0) = true) := decide_eq_true h2
              clear h2
              go_wp2
              go_ret
              exact ⟨ret_bool (by rw [HRR.out, h10, HD0.out, HD1.out, HD2.out]; rfl), HB1.out⟩
            · have z0 : ((n : Int) == 0) = false := by simp [h2]
              have HD2 : Hid (decide (n = 0) = false) := decide_eq_false h2
              clear h2
              go_wp2
              go_ret
              exact ⟨ret_bool (by rw [HRR.out, h10, HD0.out, HD1.out, HD2.out]; rfl), HB1.out⟩
          · have g1 : (mx == 0) = false := by simp [h1]
            have HD1 : Hid (decide (mx = 0) = false) := decide_eq_false h1
            clear h1
            go_wp2
            go_ret
            exact ⟨ret_bool (by rw [HRR.out, h10, HD0.out, HD1.out]; rfl), HB1.out⟩
        · have g0 : (mn == 0) = false := by simp [h0]
          have HD0 : Hid (decide (mn = 0) = false) := decide_eq_false h0
          clear h0
          go_wp2
          go_ret
          exact ⟨ret_bool (by rw [HRR.out, h10, HD0.out]; rfl), HB1.out⟩
    have n2 := hk
    clear hk HLEAF
    by_cases hk2 : k = 3 ∨ k = 4
    · have HS : Hid (shapedT k s n mn mx = (noneB s mn mx && decide (2 ≤ n))) := by
        show _ = _
        unfold shapedT noneB plainT
        rw [if_neg hk3, if_neg n2, if_pos hk2]
        cases noSet s <;> simp [Bool.and_comm, Bool.and_assoc]
      clear hk3 n1 n6 n7 n2
      cases hnb : noneB s mn mx with
      | false =>
        have HF : Hid (R = false) := by show _ = _; rw [HR.out, HS.out, hnb]; rfl
        rcases hk2 with hk | hk
        · skip
          have q1 : (k == 1) = false := by simp [hk]
          have q6 : (k == 6) = false := by simp [hk]
          have q7 : (k == 7) = false := by simp [hk]
          have q2 : (k == 2) = false := by simp [hk]
          have q3 : (k == 3) = true := by simp [hk]
          have q4 : (k == 4) = false := by simp [hk]
          have q5 : (k == 5) = false := by simp [hk]
          clear hk
          go_wp2
          go_ret
          exact ⟨ret_bool (by exact HF.out.symm), HB1.out⟩
        · skip
          have q1 : (k == 1) = false := by simp [hk]
          have q6 : (k == 6) = false := by simp [hk]
          have q7 : (k == 7) = false := by simp [hk]
          have q2 : (k == 2) = false := by simp [hk]
          have q3 : (k == 3) = false := by simp [hk]
          have q4 : (k == 4) = true := by simp [hk]
          have q5 : (k == 5) = false := by simp [hk]
          clear hk
          go_wp2
          go_ret
          exact ⟨ret_bool (by exact HF.out.symm), HB1.out⟩
      | true =>
        by_cases h2 : 2 ≤ n
        · have HSHT : Hid (shapedT k s n mn mx = true) := by show _ = _; rw [HS.out, hnb]; simp [h2]
          have h2' : ¬ (n : Int) < 2 := by omega
          clear HS
          rcases hk2 with hk | hk
          · skip
            have q1 : (k == 1) = false := by simp [hk]
            have q6 : (k == 6) = false := by simp [hk]
            have q7 : (k == 7) = false := by simp [hk]
            have q2 : (k == 2) = false := by simp [hk]
            have q3 : (k == 3) = true := by simp [hk]
            have q4 : (k == 4) = false := by simp [hk]
            have q5 : (k == 5) = false := by simp [hk]
            clear hk
            have HR2 : Hid (R = subs.all (fun t => (plc t).2)) := by show _ = _; rw [HR.out, HSHT.out]; rfl
            clear HR HSHT
            go_wp2_with fail
            go_loopw [4] (fun i u => ∃ m : Nat, i = .int .i64 (m : Nat) ∧ m ≤ n ∧ Hid (∀ i, i < m → ∀ t, subs[i]? = some t → (plc t).2 = true) ∧ Hid (Below wc.heap.size wc u)) (fun i _ => n - (intOf i).toNat)
            case atStart => exact ⟨0, rfl, Nat.zero_le _, fun i hi => absurd hi (by omega), Below.refl _ _⟩
            case round =>
              clear b0 b1 b2 b3 b4 b5 b6 b7
              obtain ⟨m, rfl, hmn, HALL, HBU⟩ := hrel
              obtain ⟨b0, b1, b2, b3, b4, b5, b6, b7⟩ := (HNB.out.later HBU.out).cells
              simp only at b0 b1 b2 b3 b4 b5 b6 b7
              by_cases hlt : m < n
              · have hlt' : (m : Int) < (n : Int) := by omega
                obtain ⟨t, ht⟩ : ∃ t, subs[m]? = some t := ⟨_, List.getElem?_eq_getElem (by rw [← HN.out]; exact hlt)⟩
                obtain ⟨v, hv⟩ : ∃ v, vs[m]? = some v := ⟨_, List.getElem?_eq_getElem (by rw [HL.out]; exact hlt)⟩
                have HT : Hid (subs[m]? = some t) := ht
                have HW0 : Hid (Below w0.heap.size w0 wr) := below_step (below_step HW.out HB1.out) HBU.out
                have hrow := (HRO.out.keep (Y := fun _ => True) (fun _ _ _ => trivial) (fun b _ hlt => HW0.out.block b hlt)).nth hv
                obtain ⟨g, off, rfl, e0, e1, e2, e3, e4, e5, e6, e7⟩ := hrow
                have HC := HIH.out m t v ht hv wr HW0.out
                unfold Nd.val at HC
                have HCC : Hid (Calls Try.prog 37 _ wr _) := HC
                clear ht hv HC
                go_wp2_with fail
                refine HCC.out.mono ?_
                rintro e w4 ⟨rfl, k4⟩
                have HB4 : Hid (Below wc.heap.size wc w4) := below_step HBU.out k4
                clear k4 HCC e0 e1 e2 e3 e4 e5 e6 e7 b0 b1 b2 b3 b4 b5 b6 b7
                cases hb : (plc t).2 with
                | false =>
                  have HF : Hid (R = false) := by
                    show _ = _
                    rw [HR2.out, List.all_eq_false]
                    exact ⟨t, List.mem_of_getElem? HT.out, by simp [hb]⟩
                  clear hb
                  go_wp2
                  go_ret
                  exact ⟨ret_bool HF.out.symm, below_step HB1.out HB4.out⟩
                | true =>
                  have HALL2 : Hid (∀ i, i < m + 1 → ∀ t, subs[i]? = some t → (plc t).2 = true) := fun i hi u hu => by
                    by_cases e : i = m
                    · subst e; rw [HT.out] at hu; cases hu; exact hb
                    · exact HALL.out i (by omega) u hu
                  clear hb
                  go_wp2
                  go_roundw
                  case rel => exact ⟨m + 1, by go_num, by omega, HALL2, HB4.out⟩
                  case measure => simp [intOf]; omega
              · have hlt' : ¬ (m : Int) < (n : Int) := by omega
                have HF : Hid (R = true) := by
                  show _ = _
                  rw [HR2.out, List.all_eq_true]
                  intro u hu
                  obtain ⟨i, hi, he⟩ := List.getElem_of_mem hu
                  have hnn := HN.out
                  exact HALL.out i (by omega) u (by rw [List.getElem?_eq_getElem hi, he])
                go_wp2
                go_ret
                exact ⟨ret_bool HF.out.symm, below_step HB1.out HBU.out⟩
          · skip
            have q1 : (k == 1) = false := by simp [hk]
            have q6 : (k == 6) = false := by simp [hk]
            have q7 : (k == 7) = false := by simp [hk]
            have q2 : (k == 2) = false := by simp [hk]
            have q3 : (k == 3) = false := by simp [hk]
            have q4 : (k == 4) = true := by simp [hk]
            have q5 : (k == 5) = false := by simp [hk]
            clear hk
            have HR2 : Hid (R = subs.all (fun t => (plc t).2)) := by show _ = _; rw [HR.out, HSHT.out]; rfl
            clear HR HSHT
            go_wp2_with fail
            go_loopw [4] (fun i u => ∃ m : Nat, i = .int .i64 (m : Nat) ∧ m ≤ n ∧ Hid (∀ i, i < m → ∀ t, subs[i]? = some t → (plc t).2 = true) ∧ Hid (Below wc.heap.size wc u)) (fun i _ => n - (intOf i).toNat)
            case atStart => exact ⟨0, rfl, Nat.zero_le _, fun i hi => absurd hi (by omega), Below.refl _ _⟩
            case round =>
              clear b0 b1 b2 b3 b4 b5 b6 b7
              obtain ⟨m, rfl, hmn, HALL, HBU⟩ := hrel
              obtain ⟨b0, b1, b2, b3, b4, b5, b6, b7⟩ := (HNB.out.later HBU.out).cells
              simp only at b0 b1 b2 b3 b4 b5 b6 b7
              by_cases hlt : m < n
              · have hlt' : (m : Int) < (n : Int) := by omega
                obtain ⟨t, ht⟩ : ∃ t, subs[m]? = some t := ⟨_, List.getElem?_eq_getElem (by rw [← HN.out]; exact hlt)⟩
                obtain ⟨v, hv⟩ : ∃ v, vs[m]? = some v := ⟨_, List.getElem?_eq_getElem (by rw [HL.out]; exact hlt)⟩
                have HT : Hid (subs[m]? = some t) := ht
                have HW0 : Hid (Below w0.heap.size w0 wr) := below_step (below_step HW.out HB1.out) HBU.out
                have hrow := (HRO.out.keep (Y := fun _ => True) (fun _ _ _ => trivial) (fun b _ hlt => HW0.out.block b hlt)).nth hv
                obtain ⟨g, off, rfl, e0, e1, e2, e3, e4, e5, e6, e7⟩ := hrow
                have HC := HIH.out m t v ht hv wr HW0.out
                unfold Nd.val at HC
                have HCC : Hid (Calls Try.prog 37 _ wr _) := HC
                clear ht hv HC
                go_wp2_with fail
                refine HCC.out.mono ?_
                rintro e w4 ⟨rfl, k4⟩
                have HB4 : Hid (Below wc.heap.size wc w4) := below_step HBU.out k4
                clear k4 HCC e0 e1 e2 e3 e4 e5 e6 e7 b0 b1 b2 b3 b4 b5 b6 b7
                cases hb : (plc t).2 with
                | false =>
                  have HF : Hid (R = false) := by
                    show _ = _
                    rw [HR2.out, List.all_eq_false]
                    exact ⟨t, List.mem_of_getElem? HT.out, by simp [hb]⟩
                  clear hb
                  go_wp2
                  go_ret
                  exact ⟨ret_bool HF.out.symm, below_step HB1.out HB4.out⟩
                | true =>
                  have HALL2 : Hid (∀ i, i < m + 1 → ∀ t, subs[i]? = some t → (plc t).2 = true) := fun i hi u hu => by
                    by_cases e : i = m
                    · subst e; rw [HT.out] at hu; cases hu; exact hb
                    · exact HALL.out i (by omega) u hu
                  clear hb
                  go_wp2
                  go_roundw
                  case rel => exact ⟨m + 1, by go_num, by omega, HALL2, HB4.out⟩
                  case measure => simp [intOf]; omega
              · have hlt' : ¬ (m : Int) < (n : Int) := by omega
                have HF : Hid (R = true) := by
                  show _ = _
                  rw [HR2.out, List.all_eq_true]
                  intro u hu
                  obtain ⟨i, hi, he⟩ := List.getElem_of_mem hu
                  have hnn := HN.out
                  exact HALL.out i (by omega) u (by rw [List.getElem?_eq_getElem hi, he])
                go_wp2
                go_ret
                exact ⟨ret_bool HF.out.symm, below_step HB1.out HBU.out⟩
        · have HF : Hid (R = false) := by show _ = _; rw [HR.out, HS.out, hnb]; simp [h2]
          have h2' : (n : Int) < 2 := by omega
          rcases hk2 with hk | hk
          · skip
            have q1 : (k == 1) = false := by simp [hk]
            have q6 : (k == 6) = false := by simp [hk]
            have q7 : (k == 7) = false := by simp [hk]
            have q2 : (k == 2) = false := by simp [hk]
            have q3 : (k == 3) = true := by simp [hk]
            have q4 : (k == 4) = false := by simp [hk]
            have q5 : (k == 5) = false := by simp [hk]
            clear hk
            go_wp2
            go_ret
            exact ⟨ret_bool (by exact HF.out.symm), HB1.out⟩
          · skip
            have q1 : (k == 1) = false := by simp [hk]
            have q6 : (k == 6) = false := by simp [hk]
            have q7 : (k == 7) = false := by simp [hk]
            have q2 : (k == 2) = false := by simp [hk]
            have q3 : (k == 3) = false := by simp [hk]
            have q4 : (k == 4) = true := by simp [hk]
            have q5 : (k == 5) = false := by simp [hk]
            clear hk
            go_wp2
            go_ret
            exact ⟨ret_bool (by exact HF.out.symm), HB1.out⟩
    have n3 : ¬ k = 3 := fun h => hk2 (Or.inl h)
    have n4 : ¬ k = 4 := fun h => hk2 (Or.inr h)
    by_cases hk : k = 5
    rotate_left
    · have HF : Hid (R = false) := by show _ = _; rw [HR.out]; unfold shapedT; rw [if_neg hk3, if_neg n2, if_neg hk2, if_neg hk]; rfl
      have q1 : (k == 1) = false := by simp [n1]
      have q6 : (k == 6) = false := by simp [n6]
      have q7 : (k == 7) = false := by simp [n7]
      have q2 : (k == 2) = false := by simp [n2]
      have q3 : (k == 3) = false := by simp [n3]
      have q4 : (k == 4) = false := by simp [n4]
      have q5 : (k == 5) = false := by simp [hk]
      clear hk n1 n6 n7 n2 n3 n4 hk3 hk2
      go_wp2
      go_ret
      exact ⟨ret_bool (by exact HF.out.symm), HB1.out⟩
    have HS : Hid (shapedT k s n mn mx = (decide (n = 1) && noSet s && counted mn mx)) := by
      show _ = _
      unfold shapedT
      rw [if_neg hk3, if_neg n2, if_neg hk2, if_pos hk]
    have q1 : (k == 1) = false := by simp [hk]
    have q6 : (k == 6) = false := by simp [hk]
    have q7 : (k == 7) = false := by simp [hk]
    have q2 : (k == 2) = false := by simp [hk]
    have q3 : (k == 3) = false := by simp [hk]
    have q4 : (k == 4) = false := by simp [hk]
    have q5 : (k == 5) = true := by simp [hk]
    clear hk n1 n6 n7 n2 n3 n4 hk3 hk2
    cases hns : noSet s with
    | false =>
      rw [hns] at HE
      have HF : Hid (R = false) := by show _ = _; rw [HR.out, HS.out, hns]; simp
      go_wp2
      go_ret
      exact ⟨ret_bool (by exact HF.out.symm), HB1.out⟩
    | true =>
      rw [hns] at HE
      by_cases h1 : n = 1
      rotate_left
      · have HF : Hid (R = false) := by show _ = _; rw [HR.out, HS.out]; simp [h1]
        have z1 : ((n : Int) == 1) = false := by simp; omega
        have z2 : ((n : Int) != 1) = true := by simp; omega
        clear h1
        go_wp2
        go_ret
        exact ⟨ret_bool (by exact HF.out.symm), HB1.out⟩
      have z1 : ((n : Int) == 1) = true := by simp; omega
      have z2 : ((n : Int) != 1) = false := by simp; omega
      have HS2 : Hid (shapedT k s n mn mx = counted mn mx) := by show _ = _; rw [HS.out, hns]; simp [h1]
      clear HS h1
      by_cases m0 : mn < 0
      · skip
        have HF : Hid (R = false) := by
          show _ = _
          rw [HR.out, HS2.out, show counted mn mx = false by unfold counted; simp; omega]
          rfl
        go_wp2
        go_ret
        exact ⟨ret_bool (by exact HF.out.symm), HB1.out⟩
      by_cases m1 : 255 < mn
      · skip
        have HF : Hid (R = false) := by
          show _ = _
          rw [HR.out, HS2.out, show counted mn mx = false by unfold counted; simp; omega]
          rfl
        go_wp2
        go_ret
        exact ⟨ret_bool (by exact HF.out.symm), HB1.out⟩
      by_cases m2 : mx = -1
      · have y1 : (mx == -1) = true := by simp [m2]
        have y2 : (mx != -1) = false := by simp [m2]
        have HSHT : Hid (shapedT k s n mn mx = true) := by show _ = _; rw [HS2.out]; unfold counted; simp; omega
        clear HS2 m2
        have HR2 : Hid (R = subs.all (fun t => (plc t).2)) := by show _ = _; rw [HR.out, HSHT.out]; rfl
        clear HR HSHT
        go_wp2_with fail
        go_loopw [4] (fun i u => ∃ m : Nat, i = .int .i64 (m : Nat) ∧ m ≤ n ∧ Hid (∀ i, i < m → ∀ t, subs[i]? = some t → (plc t).2 = true) ∧ Hid (Below wc.heap.size wc u)) (fun i _ => n - (intOf i).toNat)
        case atStart => exact ⟨0, rfl, Nat.zero_le _, fun i hi => absurd hi (by omega), Below.refl _ _⟩
        case round =>
          clear b0 b1 b2 b3 b4 b5 b6 b7
          obtain ⟨m, rfl, hmn, HALL, HBU⟩ := hrel
          obtain ⟨b0, b1, b2, b3, b4, b5, b6, b7⟩ := (HNB.out.later HBU.out).cells
          simp only at b0 b1 b2 b3 b4 b5 b6 b7
          by_cases hlt : m < n
          · have hlt' : (m : Int) < (n : Int) := by omega
            obtain ⟨t, ht⟩ : ∃ t, subs[m]? = some t := ⟨_, List.getElem?_eq_getElem (by rw [← HN.out]; exact hlt)⟩
            obtain ⟨v, hv⟩ : ∃ v, vs[m]? = some v := ⟨_, List.getElem?_eq_getElem (by rw [HL.out]; exact hlt)⟩
            have HT : Hid (subs[m]? = some t) := ht
            have HW0 : Hid (Below w0.heap.size w0 wr) := below_step (below_step HW.out HB1.out) HBU.out
            have hrow := (HRO.out.keep (Y := fun _ => True) (fun _ _ _ => trivial) (fun b _ hlt => HW0.out.block b hlt)).nth hv
            obtain ⟨g, off, rfl, e0, e1, e2, e3, e4, e5, e6, e7⟩ := hrow
            have HC := HIH.out m t v ht hv wr HW0.out
            unfold Nd.val at HC
            have HCC : Hid (Calls Try.prog 37 _ wr _) := HC
            clear ht hv HC
            go_wp2_with fail
            refine HCC.out.mono ?_
            rintro e w4 ⟨rfl, k4⟩
            have HB4 : Hid (Below wc.heap.size wc w4) := below_step HBU.out k4
            clear k4 HCC e0 e1 e2 e3 e4 e5 e6 e7 b0 b1 b2 b3 b4 b5 b6 b7
            cases hb : (plc t).2 with
            | false =>
              have HF : Hid (R = false) := by
                show _ = _
                rw [HR2.out, List.all_eq_false]
                exact ⟨t, List.mem_of_getElem? HT.out, by simp [hb]⟩
              clear hb
              go_wp2
              go_ret
              exact ⟨ret_bool HF.out.symm, below_step HB1.out HB4.out⟩
            | true =>
              have HALL2 : Hid (∀ i, i < m + 1 → ∀ t, subs[i]? = some t → (plc t).2 = true) := fun i hi u hu => by
                by_cases e : i = m
                · subst e; rw [HT.out] at hu; cases hu; exact hb
                · exact HALL.out i (by omega) u hu
              clear hb
              go_wp2
              go_roundw
              case rel => exact ⟨m + 1, by go_num, by omega, HALL2, HB4.out⟩
              case measure => simp [intOf]; omega
          · have hlt' : ¬ (m : Int) < (n : Int) := by omega
            have HF : Hid (R = true) := by
              show _ = _
              rw [HR2.out, List.all_eq_true]
              intro u hu
              obtain ⟨i, hi, he⟩ := List.getElem_of_mem hu
              have hnn := HN.out
              exact HALL.out i (by omega) u (by rw [List.getElem?_eq_getElem hi, he])
            go_wp2
            go_ret
            exact ⟨ret_bool HF.out.symm, below_step HB1.out HBU.out⟩
      have y1 : (mx == -1) = false := by simp [m2]
      have y2 : (mx != -1) = true := by simp [m2]
      by_cases m3 : mx < mn
      · skip
        have HF : Hid (R = false) := by
          show _ = _
          rw [HR.out, HS2.out, show counted mn mx = false by unfold counted; simp; omega]
          rfl
        go_wp2
        go_ret
        exact ⟨ret_bool (by exact HF.out.symm), HB1.out⟩
      by_cases m4 : 255 < mx
      · skip
        have HF : Hid (R = false) := by
          show _ = _
          rw [HR.out, HS2.out, show counted mn mx = false by unfold counted; simp; omega]
          rfl
        go_wp2
        go_ret
        exact ⟨ret_bool (by exact HF.out.symm), HB1.out⟩
      have HSHT : Hid (shapedT k s n mn mx = true) := by show _ = _; rw [HS2.out]; unfold counted; simp; omega
      clear HS2 m2
      have HR2 : Hid (R = subs.all (fun t => (plc t).2)) := by show _ = _; rw [HR.out, HSHT.out]; rfl
      clear HR HSHT
      go_wp2_with fail
      go_loopw [4] (fun i u => ∃ m : Nat, i = .int .i64 (m : Nat) ∧ m ≤ n ∧ Hid (∀ i, i < m → ∀ t, subs[i]? = some t → (plc t).2 = true) ∧ Hid (Below wc.heap.size wc u)) (fun i _ => n - (intOf i).toNat)
      case atStart => exact ⟨0, rfl, Nat.zero_le _, fun i hi => absurd hi (by omega), Below.refl _ _⟩
      case round =>
        clear b0 b1 b2 b3 b4 b5 b6 b7
        obtain ⟨m, rfl, hmn, HALL, HBU⟩ := hrel
        obtain ⟨b0, b1, b2, b3, b4, b5, b6, b7⟩ := (HNB.out.later HBU.out).cells
        simp only at b0 b1 b2 b3 b4 b5 b6 b7
        by_cases hlt : m < n
        · have hlt' : (m : Int) < (n : Int) := by omega
          obtain ⟨t, ht⟩ : ∃ t, subs[m]? = some t := ⟨_, List.getElem?_eq_getElem (by rw [← HN.out]; exact hlt)⟩
          obtain ⟨v, hv⟩ : ∃ v, vs[m]? = some v := ⟨_, List.getElem?_eq_getElem (by rw [HL.out]; exact hlt)⟩
          have HT : Hid (subs[m]? = some t) := ht
          have HW0 : Hid (Below w0.heap.size w0 wr) := below_step (below_step HW.out HB1.out) HBU.out
          have hrow := (HRO.out.keep (Y := fun _ => True) (fun _ _ _ => trivial) (fun b _ hlt => HW0.out.block b hlt)).nth hv
          obtain ⟨g, off, rfl, e0, e1, e2, e3, e4, e5, e6, e7⟩ := hrow
          have HC := HIH.out m t v ht hv wr HW0.out
          unfold Nd.val at HC
          have HCC : Hid (Calls Try.prog 37 _ wr _) := HC
          clear ht hv HC
          go_wp2_with fail
          refine HCC.out.mono ?_
          rintro e w4 ⟨rfl, k4⟩
          have HB4 : Hid (Below wc.heap.size wc w4) := below_step HBU.out k4
          clear k4 HCC e0 e1 e2 e3 e4 e5 e6 e7 b0 b1 b2 b3 b4 b5 b6 b7
          cases hb : (plc t).2 with
          | false =>
            have HF : Hid (R = false) := by
              show _ = _
              rw [HR2.out, List.all_eq_false]
              exact ⟨t, List.mem_of_getElem? HT.out, by simp [hb]⟩
            clear hb
            go_wp2
            go_ret
            exact ⟨ret_bool HF.out.symm, below_step HB1.out HB4.out⟩
          | true =>
            have HALL2 : Hid (∀ i, i < m + 1 → ∀ t, subs[i]? = some t → (plc t).2 = true) := fun i hi u hu => by
              by_cases e : i = m
              · subst e; rw [HT.out] at hu; cases hu; exact hb
              · exact HALL.out i (by omega) u hu
            clear hb
            go_wp2
            go_roundw
            case rel => exact ⟨m + 1, by go_num, by omega, HALL2, HB4.out⟩
            case measure => simp [intOf]; omega
        · have hlt' : ¬ (m : Int) < (n : Int) := by omega
          have HF : Hid (R = true) := by
            show _ = _
            rw [HR2.out, List.all_eq_true]
            intro u hu
            obtain ⟨i, hi, he⟩ := List.getElem_of_mem hu
            have hnn := HN.out
            exact HALL.out i (by omega) u (by rw [List.getElem?_eq_getElem hi, he])
          go_wp2
          go_ret
          exact ⟨ret_bool HF.out.symm, below_step HB1.out HBU.out⟩
end Go.Proofs.Ytjmbimgofceanaa
