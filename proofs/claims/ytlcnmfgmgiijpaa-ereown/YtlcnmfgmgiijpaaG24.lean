/- What the document gives, computed. -/
import Derived.Test.YtlcnmfgmgiijpaaG23
namespace Go.Proofs.Ytlcnmfgmgiijpaa
open Go.RowKit

def T1 : Tr := .mk 4 Oct.none [.mk 3 Oct.none [setT (Oct.has [97]), times (setT (Oct.meet (Oct.span 98 100) ordinary)) 0 (-1)] 0 0, empty] 0 0
theorem known1 : parseOf ⟨#[97, 91, 98, 45, 100, 93, 42, 124]⟩ = .ok T1 8 := by kernel_rfl
theorem known2 : parseOf ⟨#[40, 97, 40, 98]⟩ = .bad 2 42 := by kernel_rfl
end Go.Proofs.Ytlcnmfgmgiijpaa

/- heronlaw04.same: two trees in memory. -/
namespace Go.Proofs.Ytlcnmfgmgiijpaa
open Go.RowKit
attribute [local go_sem ↓] Go.wp_at_zero Go.wp_at_succ

def eqS (s t : Oct.S) : Bool := decide (Oct.word s 0 = Oct.word t 0) && decide (Oct.word s 1 = Oct.word t 1) && decide (Oct.word s 2 = Oct.word t 2) && decide (Oct.word s 3 = Oct.word t 3)
theorem eqS_refl (s : Oct.S) : eqS s s = true := by simp [eqS]
set_option maxHeartbeats 2000000 in
theorem eq4_gen (a b c d a' b' c' d' : Nat) (w : World) : (Op.equalIn 10000 25 (.agg #[.int .u64 (a : Nat), .int .u64 (b : Nat), .int .u64 (c : Nat), .int .u64 (d : Nat)]) (.agg #[.int .u64 (a' : Nat), .int .u64 (b' : Nat), .int .u64 (c' : Nat), .int .u64 (d' : Nat)])).run Try.prog w = .ok (decide (a = a') && decide (b = b') && decide (c = c') && decide (d = d')) w := by
  obtain ⟨i0, hi, hz0, hz1, hz2⟩ := info_parts info23
  have h1 : ∀ x y : Nat, (Op.equalIn 9999 23 (.int .u64 (x : Nat)) (.int .u64 (y : Nat))).run Try.prog w = .ok (decide (x = y)) w := fun x y => by
    rw [run_equalIn_int w 9998 23 .u64 .u64 x y Try.underlying23]
    congr 1
    rw [Bool.eq_iff_iff]
    simp
    omega
  rw [show (10000 : Nat) = 9999 + 1 from rfl, Op.equalIn]
  by_cases ha : a = a'
  · by_cases hb : b = b'
    · by_cases hc : c = c'
      · by_cases hd : d = d'
        · simp [run_underlying Try.underlying25, sizeOf, typeInfo, hi, hz1, part, Try.isAgg23, Std.Legacy.Range.forIn_eq_forIn_range', Std.Legacy.Range.size, List.range'_succ, List.range'_zero, h1, ha, hb, hc, hd]
        · simp [run_underlying Try.underlying25, sizeOf, typeInfo, hi, hz1, part, Try.isAgg23, Std.Legacy.Range.forIn_eq_forIn_range', Std.Legacy.Range.size, List.range'_succ, List.range'_zero, h1, ha, hb, hc, hd]
      · simp [run_underlying Try.underlying25, sizeOf, typeInfo, hi, hz1, part, Try.isAgg23, Std.Legacy.Range.forIn_eq_forIn_range', Std.Legacy.Range.size, List.range'_succ, List.range'_zero, h1, ha, hb, hc]
    · simp [run_underlying Try.underlying25, sizeOf, typeInfo, hi, hz1, part, Try.isAgg23, Std.Legacy.Range.forIn_eq_forIn_range', Std.Legacy.Range.size, List.range'_succ, List.range'_zero, h1, ha, hb]
  · simp [run_underlying Try.underlying25, sizeOf, typeInfo, hi, hz1, part, Try.isAgg23, Std.Legacy.Range.forIn_eq_forIn_range', Std.Legacy.Range.size, List.range'_succ, List.range'_zero, h1, ha]
mutual
def sameT : Tn → Tn → Bool
  | .mk k s ts mn mx, .mk k' s' us mn' mx' => decide (k = k') && eqS s s' && decide (mn = mn') && decide (mx = mx') && decide (ts.length = us.length) && samesT ts us
def samesT : List Tn → List Tn → Bool
  | t :: ts, u :: us => sameT t u && samesT ts us
  | [], _ => true
  | _ :: _, [] => true
end
mutual
theorem sameT_refl : ∀ t : Tn, sameT t t = true
  | .mk k s ts mn mx => by rw [sameT, samesT_refl ts]; simp [eqS_refl]
theorem samesT_refl : ∀ ts : List Tn, samesT ts ts = true
  | [] => by rw [samesT]
  | t :: ts => by rw [samesT, sameT_refl t, samesT_refl ts]; rfl
end
theorem samesT_step {ts us : List Tn} {i : Nat} {t u : Tn} (h : ts[i]? = some t) (h' : us[i]? = some u) : samesT (ts.drop i) (us.drop i) = (sameT t u && samesT (ts.drop (i + 1)) (us.drop (i + 1))) := by
  have hlt := (List.getElem?_eq_some_iff.1 h).1
  have hlt' := (List.getElem?_eq_some_iff.1 h').1
  rw [List.drop_eq_getElem_cons hlt, (List.getElem?_eq_some_iff.1 h).2, List.drop_eq_getElem_cons hlt', (List.getElem?_eq_some_iff.1 h').2, samesT]
theorem samesT_end {ts us : List Tn} {i : Nat} (h : ts.length ≤ i) : samesT (ts.drop i) (us.drop i) = true := by
  rw [List.drop_eq_nil_of_le h]
  rw [samesT]
set_option maxRecDepth 4000 in
set_option maxHeartbeats 8000000 in
theorem same_any {w0 : World} {t : Tn} {x : Nd} (h : InAt w0 t x) : ∀ (u : Tn) (y : Nd), InAt w0 u y → ∀ w, Below w0.heap.size w0 w → Calls Try.prog 12 #[x.val, y.val] w fun e w' => e = .returned (.bool (sameT t u)) ∧ Below w.heap.size w w' := by
  induction h with
  | mk k s subs mn mx a n c vs hn hl hm hr hs ih =>
    intro u y hu w hw
    cases hu with
    | mk k' s' subs' mn' mx' a' n' c' vs' hn' hl' hm' hr' hs' =>
    have HIH : Hid (∀ (i : Nat) (t : Tn) (v : Nd), subs[i]? = some t → vs[i]? = some v → ∀ (u : Tn) (y : Nd), InAt w0 u y → ∀ w, Below w0.heap.size w0 w → Calls Try.prog 12 #[v.val, y.val] w fun e w' => e = .returned (.bool (sameT t u)) ∧ Below w.heap.size w w') := ih
    have HSU : Hid (∀ (i : Nat) (t : Tn) (v : Nd), subs'[i]? = some t → vs'[i]? = some v → InAt w0 t v) := hs'
    have HRO : Hid (RowAt (fun _ => True) w0 a vs) := hr
    have HRO' : Hid (RowAt (fun _ => True) w0 a' vs') := hr'
    have HN : Hid (n = subs.length) := hn
    have HL : Hid (vs.length = n) := hl
    have HN' : Hid (n' = subs'.length) := hn'
    have HL' : Hid (vs'.length = n') := hl'
    have HSA : Hid (sameT (.mk k s subs mn mx) (.mk k' s' subs' mn' mx') = (decide (k = k') && eqS s s' && decide (mn = mn') && decide (mx = mx') && decide (n = n') && samesT subs subs')) := by show _ = _; rw [sameT, hn, hn']
    have HW : Hid (Below w0.heap.size w0 w) := hw
    obtain ⟨w1, hw1⟩ : ∃ w1, w1 = w.alloc (.cells #[.int .i64 k, .int .u64 (Oct.word s 0 : Nat), .int .u64 (Oct.word s 1 : Nat), .int .u64 (Oct.word s 2 : Nat), .int .u64 (Oct.word s 3 : Nat), .slice a n c, .int .i64 mn, .int .i64 mx] 28) := ⟨_, rfl⟩
    obtain ⟨w2, hw2⟩ : ∃ w2, w2 = w1.alloc (.cells #[.int .i64 k', .int .u64 (Oct.word s' 0 : Nat), .int .u64 (Oct.word s' 1 : Nat), .int .u64 (Oct.word s' 2 : Nat), .int .u64 (Oct.word s' 3 : Nat), .slice a' n' c', .int .i64 mn', .int .i64 mx'] 28) := ⟨_, rfl⟩
    have z1 : w1.heap.size = w.heap.size + 1 := by rw [hw1]; simp
    have k1 : Below w.heap.size w w1 := by rw [hw1]; exact (Below.refl _ _).alloc (Nat.le_refl _) _
    have k2 : Below w1.heap.size w1 w2 := by rw [hw2]; exact (Below.refl _ _).alloc (Nat.le_refl _) _
    have hA1 : NB w2 w.heap.size ⟨k, s, a, n, c, mn, mx⟩ := by
      have h : NB w1 w.heap.size ⟨k, s, a, n, c, mn, mx⟩ := by rw [hw1]; exact nb_new w ⟨k, s, a, n, c, mn, mx⟩
      exact h.later k2
    have hA2 : NB w2 (w.heap.size + 1) ⟨k', s', a', n', c', mn', mx'⟩ := by
      have h : NB w2 w1.heap.size ⟨k', s', a', n', c', mn', mx'⟩ := by rw [hw2]; exact nb_new w1 ⟨k', s', a', n', c', mn', mx'⟩
      rw [z1] at h
      exact h
    obtain ⟨A, hA⟩ : ∃ A, w.heap.size = A := ⟨_, rfl⟩
    obtain ⟨A', hA'⟩ : ∃ A', w.heap.size + 1 = A' := ⟨_, rfl⟩
    rw [hA'] at hA2
    rw [hA] at hA1
    have HA : Hid (w.heap.size = A) := hA
    have HA' : Hid (w.heap.size + 1 = A') := hA'
    have HB2 : Hid (Below w.heap.size w w2) := below_step k1 k2
    have HC1 : Hid (∀ u, Below w2.heap.size w2 u → u.cell? ⟨A, 0, none⟩ = some (.int .i64 k) ∧ u.cell? ⟨A, 1, none⟩ = some (.int .u64 (Oct.word s 0 : Nat)) ∧ u.cell? ⟨A, 2, none⟩ = some (.int .u64 (Oct.word s 1 : Nat)) ∧ u.cell? ⟨A, 3, none⟩ = some (.int .u64 (Oct.word s 2 : Nat)) ∧ u.cell? ⟨A, 4, none⟩ = some (.int .u64 (Oct.word s 3 : Nat)) ∧ u.cell? ⟨A, 5, none⟩ = some (.slice a n c) ∧ u.cell? ⟨A, 6, none⟩ = some (.int .i64 mn) ∧ u.cell? ⟨A, 7, none⟩ = some (.int .i64 mx)) := fun u hu => (hA1.later hu).cells
    have HC2 : Hid (∀ u, Below w2.heap.size w2 u → u.cell? ⟨A', 0, none⟩ = some (.int .i64 k') ∧ u.cell? ⟨A', 1, none⟩ = some (.int .u64 (Oct.word s' 0 : Nat)) ∧ u.cell? ⟨A', 2, none⟩ = some (.int .u64 (Oct.word s' 1 : Nat)) ∧ u.cell? ⟨A', 3, none⟩ = some (.int .u64 (Oct.word s' 2 : Nat)) ∧ u.cell? ⟨A', 4, none⟩ = some (.int .u64 (Oct.word s' 3 : Nat)) ∧ u.cell? ⟨A', 5, none⟩ = some (.slice a' n' c') ∧ u.cell? ⟨A', 6, none⟩ = some (.int .i64 mn') ∧ u.cell? ⟨A', 7, none⟩ = some (.int .i64 mx')) := fun u hu => (hA2.later hu).cells
    have HW1 : Hid (w.alloc (.cells #[.int .i64 k, .int .u64 (Oct.word s 0 : Nat), .int .u64 (Oct.word s 1 : Nat), .int .u64 (Oct.word s 2 : Nat), .int .u64 (Oct.word s 3 : Nat), .slice a n c, .int .i64 mn, .int .i64 mx] 28) = w1) := hw1.symm
    have HW2 : Hid (w1.alloc (.cells #[.int .i64 k', .int .u64 (Oct.word s' 0 : Nat), .int .u64 (Oct.word s' 1 : Nat), .int .u64 (Oct.word s' 2 : Nat), .int .u64 (Oct.word s' 3 : Nat), .slice a' n' c', .int .i64 mn', .int .i64 mx'] 28) = w2) := hw2.symm
    have HEQ : Hid (∀ u, (Op.equalIn 10000 25 (.agg #[.int .u64 (Oct.word s 0 : Nat), .int .u64 (Oct.word s 1 : Nat), .int .u64 (Oct.word s 2 : Nat), .int .u64 (Oct.word s 3 : Nat)]) (.agg #[.int .u64 (Oct.word s' 0 : Nat), .int .u64 (Oct.word s' 1 : Nat), .int .u64 (Oct.word s' 2 : Nat), .int .u64 (Oct.word s' 3 : Nat)])).run Try.prog u = .ok (eqS s s') u) := fun u => eq4_gen _ _ _ _ _ _ _ _ u
    show Calls Try.prog 12 #[.agg #[.int .i64 k, .int .u64 (Oct.word s 0 : Nat), .int .u64 (Oct.word s 1 : Nat), .int .u64 (Oct.word s 2 : Nat), .int .u64 (Oct.word s 3 : Nat), .slice a n c, .int .i64 mn, .int .i64 mx], .agg #[.int .i64 k', .int .u64 (Oct.word s' 0 : Nat), .int .u64 (Oct.word s' 1 : Nat), .int .u64 (Oct.word s' 2 : Nat), .int .u64 (Oct.word s' 3 : Nat), .slice a' n' c', .int .i64 mn', .int .i64 mx']] w _
    clear hw hw1 hw2 hA hA' hn hl hr hs ih hn' hl' hr' hs' z1 k1 k2 hA1 hA2
    obtain ⟨b0, b1, b2, b3, b4, b5, b6, b7⟩ := HC1.out w2 (Below.refl _ _)
    obtain ⟨c0, c1, c2, c3, c4, c5, c6, c7⟩ := HC2.out w2 (Below.refl _ _)
    go_enter Try.func12, Try.ntmps12
    go_upto_region 1 with fail
    rw [HW1.out, HA'.out, HA.out, HW2.out]
    clear HW1 HW2
    by_cases hk : k = k'
    · have gk : (k != k') = false := by simp [hk]
      cases heq : eqS s s' with
      | false =>
        have EQ := HEQ.out
        rw [heq] at EQ
        have HX : Hid (sameT (.mk k s subs mn mx) (.mk k' s' subs' mn' mx') = false) := by show _ = _; rw [HSA.out]; simp [heq]
        go_wp2
        go_ret
        exact ⟨ret_bool (by rw [HX.out]), HB2.out⟩
      | true =>
        have EQ := HEQ.out
        rw [heq] at EQ
        by_cases hmn : mn = mn'
        · have gmn : (mn != mn') = false := by simp [hmn]
          by_cases hmx : mx = mx'
          · have gmx : (mx != mx') = false := by simp [hmx]
            by_cases hnn : n = n'
            · have gn : ((n : Int) != (n' : Int)) = false := by simp [hnn]
              have HX0 : Hid (sameT (.mk k s subs mn mx) (.mk k' s' subs' mn' mx') = samesT subs subs') := by show _ = _; rw [HSA.out]; simp [hk, heq, hmn, hmx, hnn]
              have HNE : Hid (n' = n) := hnn.symm
              clear hk heq hmn hmx hnn HSA
              go_upto_region 3 with fail
              clear gk gmn gmx gn EQ
              go_wp2_with fail
              go_loopw [44] (fun i u => ∃ m : Nat, i = .int .i64 (m : Nat) ∧ m ≤ n ∧ Hid (samesT subs subs' = samesT (subs.drop m) (subs'.drop m)) ∧ Hid (Below w2.heap.size w2 u)) (fun i _ => n - (intOf i).toNat)
              case atStart => exact ⟨0, rfl, Nat.zero_le _, by show _ = _; rfl, Below.refl _ _⟩
              case round =>
                clear b0 b1 b2 b3 b4 b5 b6 b7 c0 c1 c2 c3 c4 c5 c6 c7
                obtain ⟨m, rfl, hmn, HPS, HBU⟩ := hrel
                by_cases hlt : m < n
                · obtain ⟨t, ht⟩ : ∃ t, subs[m]? = some t := ⟨_, List.getElem?_eq_getElem (by rw [← HN.out]; exact hlt)⟩
                  obtain ⟨v, hv⟩ : ∃ v, vs[m]? = some v := ⟨_, List.getElem?_eq_getElem (by rw [HL.out]; exact hlt)⟩
                  obtain ⟨t', ht'⟩ : ∃ t, subs'[m]? = some t := ⟨_, List.getElem?_eq_getElem (by rw [← HN'.out, HNE.out]; exact hlt)⟩
                  obtain ⟨v', hv'⟩ : ∃ v, vs'[m]? = some v := ⟨_, List.getElem?_eq_getElem (by rw [HL'.out, HNE.out]; exact hlt)⟩
                  have HW0 : Hid (Below w0.heap.size w0 wr) := below_step (below_step HW.out HB2.out) HBU.out
                  have hlt2 : m < n' := by rw [HNE.out]; exact hlt
                  obtain ⟨g, off, rfl, _⟩ := HRO.out.nth hv
                  obtain ⟨g', off', rfl, _⟩ := HRO'.out.nth hv'
                  have HROW : Hid (∀ u : Later wr, u.at_.cell? ⟨g, off + m * 8, none⟩ = some (.int .i64 v.k) ∧ u.at_.cell? ⟨g, off + m * 8 + 1, none⟩ = some (.int .u64 (Oct.word v.s 0 : Nat)) ∧ u.at_.cell? ⟨g, off + m * 8 + 2, none⟩ = some (.int .u64 (Oct.word v.s 1 : Nat)) ∧ u.at_.cell? ⟨g, off + m * 8 + 3, none⟩ = some (.int .u64 (Oct.word v.s 2 : Nat)) ∧ u.at_.cell? ⟨g, off + m * 8 + 4, none⟩ = some (.int .u64 (Oct.word v.s 3 : Nat)) ∧ u.at_.cell? ⟨g, off + m * 8 + 5, none⟩ = some (.slice v.a v.n v.c) ∧ u.at_.cell? ⟨g, off + m * 8 + 6, none⟩ = some (.int .i64 v.mn) ∧ u.at_.cell? ⟨g, off + m * 8 + 7, none⟩ = some (.int .i64 v.mx)) := fun u => by
                    obtain ⟨g2, off2, e, h⟩ := (HRO.out.keep (Y := fun _ => True) (fun _ h _ => h) (fun b _ hb => (below_step HW0.out u.below).block b hb)).nth hv
                    cases e
                    exact h
                  have HROW' : Hid (∀ u : Later wr, u.at_.cell? ⟨g', off' + m * 8, none⟩ = some (.int .i64 v'.k) ∧ u.at_.cell? ⟨g', off' + m * 8 + 1, none⟩ = some (.int .u64 (Oct.word v'.s 0 : Nat)) ∧ u.at_.cell? ⟨g', off' + m * 8 + 2, none⟩ = some (.int .u64 (Oct.word v'.s 1 : Nat)) ∧ u.at_.cell? ⟨g', off' + m * 8 + 3, none⟩ = some (.int .u64 (Oct.word v'.s 2 : Nat)) ∧ u.at_.cell? ⟨g', off' + m * 8 + 4, none⟩ = some (.int .u64 (Oct.word v'.s 3 : Nat)) ∧ u.at_.cell? ⟨g', off' + m * 8 + 5, none⟩ = some (.slice v'.a v'.n v'.c) ∧ u.at_.cell? ⟨g', off' + m * 8 + 6, none⟩ = some (.int .i64 v'.mn) ∧ u.at_.cell? ⟨g', off' + m * 8 + 7, none⟩ = some (.int .i64 v'.mx)) := fun u => by
                    obtain ⟨g2, off2, e, h⟩ := (HRO'.out.keep (Y := fun _ => True) (fun _ h _ => h) (fun b _ hb => (below_step HW0.out u.below).block b hb)).nth hv'
                    cases e
                    exact h
                  have r0 : ∀ u : Later wr, u.at_.cell? ⟨g, off + m * 8, none⟩ = some (.int .i64 v.k) := fun u => (HROW.out u).1
                  have r1 : ∀ u : Later wr, u.at_.cell? ⟨g, off + m * 8 + 1, none⟩ = some (.int .u64 (Oct.word v.s 0 : Nat)) := fun u => (HROW.out u).2.1
                  have r2 : ∀ u : Later wr, u.at_.cell? ⟨g, off + m * 8 + 2, none⟩ = some (.int .u64 (Oct.word v.s 1 : Nat)) := fun u => (HROW.out u).2.2.1
                  have r3 : ∀ u : Later wr, u.at_.cell? ⟨g, off + m * 8 + 3, none⟩ = some (.int .u64 (Oct.word v.s 2 : Nat)) := fun u => (HROW.out u).2.2.2.1
                  have r4 : ∀ u : Later wr, u.at_.cell? ⟨g, off + m * 8 + 4, none⟩ = some (.int .u64 (Oct.word v.s 3 : Nat)) := fun u => (HROW.out u).2.2.2.2.1
                  have r5 : ∀ u : Later wr, u.at_.cell? ⟨g, off + m * 8 + 5, none⟩ = some (.slice v.a v.n v.c) := fun u => (HROW.out u).2.2.2.2.2.1
                  have r6 : ∀ u : Later wr, u.at_.cell? ⟨g, off + m * 8 + 6, none⟩ = some (.int .i64 v.mn) := fun u => (HROW.out u).2.2.2.2.2.2.1
                  have r7 : ∀ u : Later wr, u.at_.cell? ⟨g, off + m * 8 + 7, none⟩ = some (.int .i64 v.mx) := fun u => (HROW.out u).2.2.2.2.2.2.2
                  have q0 : ∀ u : Later wr, u.at_.cell? ⟨g', off' + m * 8, none⟩ = some (.int .i64 v'.k) := fun u => (HROW'.out u).1
                  have q1 : ∀ u : Later wr, u.at_.cell? ⟨g', off' + m * 8 + 1, none⟩ = some (.int .u64 (Oct.word v'.s 0 : Nat)) := fun u => (HROW'.out u).2.1
                  have q2 : ∀ u : Later wr, u.at_.cell? ⟨g', off' + m * 8 + 2, none⟩ = some (.int .u64 (Oct.word v'.s 1 : Nat)) := fun u => (HROW'.out u).2.2.1
                  have q3 : ∀ u : Later wr, u.at_.cell? ⟨g', off' + m * 8 + 3, none⟩ = some (.int .u64 (Oct.word v'.s 2 : Nat)) := fun u => (HROW'.out u).2.2.2.1
                  have q4 : ∀ u : Later wr, u.at_.cell? ⟨g', off' + m * 8 + 4, none⟩ = some (.int .u64 (Oct.word v'.s 3 : Nat)) := fun u => (HROW'.out u).2.2.2.2.1
                  have q5 : ∀ u : Later wr, u.at_.cell? ⟨g', off' + m * 8 + 5, none⟩ = some (.slice v'.a v'.n v'.c) := fun u => (HROW'.out u).2.2.2.2.2.1
                  have q6 : ∀ u : Later wr, u.at_.cell? ⟨g', off' + m * 8 + 6, none⟩ = some (.int .i64 v'.mn) := fun u => (HROW'.out u).2.2.2.2.2.2.1
                  have q7 : ∀ u : Later wr, u.at_.cell? ⟨g', off' + m * 8 + 7, none⟩ = some (.int .i64 v'.mx) := fun u => (HROW'.out u).2.2.2.2.2.2.2
                  have b5 : ∀ u : Later wr, u.at_.cell? ⟨A, 5, none⟩ = some (.slice (some ⟨g, off, none⟩) n c) := fun u => (HC1.out u.at_ (below_step HBU.out u.below)).2.2.2.2.2.1
                  have c5 : ∀ u : Later wr, u.at_.cell? ⟨A', 5, none⟩ = some (.slice (some ⟨g', off', none⟩) n' c') := fun u => (HC2.out u.at_ (below_step HBU.out u.below)).2.2.2.2.2.1
                  have HCALL : Hid (∀ u : Later wr, Calls Try.prog 12 #[v.val, v'.val] u.at_ fun e w' => e = .returned (.bool (sameT t t')) ∧ Below u.at_.heap.size u.at_ w') := fun u => HIH.out m t v ht hv t' v' (HSU.out m t' v' ht' hv') u.at_ (below_step HW0.out u.below)
                  have HSTEP : Hid (samesT subs subs' = (sameT t t' && samesT (subs.drop (m + 1)) (subs'.drop (m + 1)))) := by show _ = _; rw [HPS.out]; exact samesT_step ht ht'
                  clear ht hv ht' hv' HROW HROW'
                  have hne : Nonempty (Later wr) := ⟨⟨wr, Below.refl _ _⟩⟩
                  unfold Nd.val at HCALL
                  go_upto_region 6 with fail
                  cases hb : sameT t t' with
                  | false =>
                    have HX : Hid (sameT (.mk k s subs mn mx) (.mk k' s' subs' mn' mx') = false) := by show _ = _; rw [HX0.out, HSTEP.out, hb]; rfl
                    rw [hb] at HCALL
                    clear hb
                    go_cut [58] (fun b wx => b = .bool true ∧ Hid (Below wr.heap.size wr wx))
                    case first =>
                      refine wp_region_later (by kernel_rfl) (by kernel_rfl) ?_
                      repeat (first
                        | go_big_quiet_step ((go_at_call 12; exact calls_later (HCALL.out _)))
                        | quiet_step ((go_at_call 12; exact calls_later (HCALL.out _))))
                      refine wpQuiet_nil ?_
                      intro _ hw'
                      obtain ⟨u, hw''⟩ := hw'
                      subst hw''
                      go_wp2_with fail
                      go_meet
                      case rel => exact ⟨rfl, u.below⟩
                    case rest =>
                    obtain ⟨rfl, kc⟩ := hcut
                    clear b5 c5 r0 q0 r1 q1 r2 q2 r3 q3 r4 q4 r5 q5 r6 q6 r7 q7
                    go_wp2
                    go_ret
                    exact ⟨ret_bool (by rw [HX.out]), below_step (below_step HB2.out HBU.out) kc.out⟩
                  | true =>
                    have HS2 : Hid (samesT subs subs' = samesT (subs.drop (m + 1)) (subs'.drop (m + 1))) := by show _ = _; rw [HSTEP.out, hb]; rfl
                    rw [hb] at HCALL
                    clear hb
                    go_cut [58] (fun b wx => b = .bool false ∧ Hid (Below wr.heap.size wr wx))
                    case first =>
                      refine wp_region_later (by kernel_rfl) (by kernel_rfl) ?_
                      repeat (first
                        | go_big_quiet_step ((go_at_call 12; exact calls_later (HCALL.out _)))
                        | quiet_step ((go_at_call 12; exact calls_later (HCALL.out _))))
                      refine wpQuiet_nil ?_
                      intro _ hw'
                      obtain ⟨u, hw''⟩ := hw'
                      subst hw''
                      go_wp2_with fail
                      go_meet
                      case rel => exact ⟨rfl, u.below⟩
                    case rest =>
                    obtain ⟨rfl, kc⟩ := hcut
                    clear b5 c5 r0 q0 r1 q1 r2 q2 r3 q3 r4 q4 r5 q5 r6 q6 r7 q7
                    go_wp2
                    go_roundw
                    case rel => exact ⟨m + 1, by go_num, by omega, HS2, below_step HBU.out kc.out⟩
                    case measure => simp [intOf]; omega
                · have HX : Hid (sameT (.mk k s subs mn mx) (.mk k' s' subs' mn' mx') = true) := by show _ = _; rw [HX0.out, HPS.out]; exact samesT_end (by rw [← HN.out]; omega)
                  go_wp2
                  go_ret
                  exact ⟨ret_bool (by rw [HX.out]), below_step HB2.out HBU.out⟩
            · have gn : ((n : Int) != (n' : Int)) = true := by simp; omega
              have HX : Hid (sameT (.mk k s subs mn mx) (.mk k' s' subs' mn' mx') = false) := by show _ = _; rw [HSA.out]; simp [hnn]
              go_wp2
              go_ret
              exact ⟨ret_bool (by rw [HX.out]), HB2.out⟩
          · have gmx : (mx != mx') = true := by simp [hmx]
            have HX : Hid (sameT (.mk k s subs mn mx) (.mk k' s' subs' mn' mx') = false) := by show _ = _; rw [HSA.out]; simp [hmx]
            go_wp2
            go_ret
            exact ⟨ret_bool (by rw [HX.out]), HB2.out⟩
        · have gmn : (mn != mn') = true := by simp [hmn]
          have HX : Hid (sameT (.mk k s subs mn mx) (.mk k' s' subs' mn' mx') = false) := by show _ = _; rw [HSA.out]; simp [hmn]
          go_wp2
          go_ret
          exact ⟨ret_bool (by rw [HX.out]), HB2.out⟩
    · have gk : (k != k') = true := by simp [hk]
      have HX : Hid (sameT (.mk k s subs mn mx) (.mk k' s' subs' mn' mx') = false) := by show _ = _; rw [HSA.out]; simp [hk]
      go_wp2
      go_ret
      exact ⟨ret_bool (by rw [HX.out]), HB2.out⟩
end Go.Proofs.Ytlcnmfgmgiijpaa
