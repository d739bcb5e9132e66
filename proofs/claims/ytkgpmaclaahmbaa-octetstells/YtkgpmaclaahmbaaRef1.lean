/- Contracts of the document's Count, Meet, Not and Span of layer 3: by walking their bodies. -/
import Derived.Test.YtkgpmaclaahmbaaSets2
namespace Go.Proofs.Ytkgpmaclaahmbaa
open Go.RowKit

set_option maxRecDepth 4000 in
set_option maxHeartbeats 400000 in
theorem rcount_core (s : Oct.S) (N : Nat) (w : World) (hN : N = Oct.count s 256) : Calls Try.prog 15 #[setV s] w fun e w' => e = .returned (.int .i64 (N : Nat)) ∧ Below w.heap.size w w' := by
  have HN : Hid (N = Oct.count s 256) := hN
  clear hN
  have H0 : Hid (SB (w.alloc (.cells #[.int .u64 (Oct.word s 0 : Nat), .int .u64 (Oct.word s 1 : Nat), .int .u64 (Oct.word s 2 : Nat), .int .u64 (Oct.word s 3 : Nat)] 24)) w.heap.size s) := sb_new w s
  have HB : Hid (Below w.heap.size w (w.alloc (.cells #[.int .u64 (Oct.word s 0 : Nat), .int .u64 (Oct.word s 1 : Nat), .int .u64 (Oct.word s 2 : Nat), .int .u64 (Oct.word s 3 : Nat)] 24))) := (Below.refl w.heap.size w).alloc (Nat.le_refl _) _
  unfold setV
  go_enter Try.func15, Try.ntmps15
  go_wp2
  go_loopw [3, 4] (fun n i u => ∃ k : Nat, k ≤ 256 ∧ i = .int .i64 k ∧ n = .int .i64 (Oct.count s k : Nat) ∧ Hid (SB u w.heap.size s) ∧ Hid (Below w.heap.size w u)) (fun _ i _ => 256 - (intOf i).toNat)
  case atStart => exact ⟨0, Nat.zero_le _, rfl, rfl, H0.out, HB.out⟩
  case round =>
    clear H0 HB
    obtain ⟨k, hk, rfl, rfl, hs, hb⟩ := hrel
    have hc := Oct.count_le s k
    have HC : Hid (Oct.count s (k + 1) = Oct.count s k + if s k then 1 else 0) := Oct.count_succ s k
    obtain ⟨c, hce⟩ : ∃ c, c = Oct.count s k := ⟨_, rfl⟩
    rw [← hce] at hc HC ⊢
    have HCE : Hid (c = Oct.count s k) := hce
    clear hce
    obtain ⟨c0, c1, c2, c3⟩ := hs.out.cells
    by_cases hlt : k < 256
    · go_wp2_with fail
      refine (rhas_any s k _ hlt).mono ?_
      rintro e w3 ⟨rfl, hb3⟩
      have HS3 : Hid (SB w3 w.heap.size s) := hs.out.later hb3
      have HB3 : Hid (Below w.heap.size w w3) := below_trans hb.out hb3 hb.out.size
      clear hs hb hb3 c0 c1 c2 c3
      cases hsk : s k with
      | true =>
        have HT : Hid (s k = true) := hsk
        clear hsk
        go_wp2
        go_roundw
        case rel => exact ⟨k + 1, by omega, by go_num, by rw [HC.out, if_pos HT.out]; go_num, HS3.out, HB3.out⟩
        case measure => simp [intOf]; omega
      | false =>
        have HT : Hid (s k = false) := hsk
        clear hsk
        go_wp2
        go_roundw
        case rel => exact ⟨k + 1, by omega, by go_num, by rw [HC.out, if_neg (by rw [HT.out]; decide)]; go_num, HS3.out, HB3.out⟩
        case measure => simp [intOf]; omega
    · have HK : Hid (k = 256) := by show k = 256; omega
      go_wp2
      go_ret
      exact ⟨ret_int (by rw [HN.out, HCE.out, HK.out]), hb.out⟩
theorem rcount_any (s : Oct.S) (w : World) : Calls Try.prog 15 #[setV s] w fun e w' => e = .returned (.int .i64 (Oct.count s 256 : Nat)) ∧ Below w.heap.size w w' := rcount_core s _ w rfl

set_option maxRecDepth 4000 in
set_option maxHeartbeats 1000000 in
theorem rmeet_any (s t : Oct.S) (w : World) : Calls Try.prog 22 #[setV s, setV t] w fun e w' => e = .returned (setV (Oct.meet s t)) ∧ Below w.heap.size w w' := by
  obtain ⟨u0, hu0, hA, hB, hst⟩ := start_meet w s t
  have HA0 : Hid (SB u0 w.heap.size s) := hA
  have HB0 : Hid (SB u0 (w.heap.size + 1) t) := hB
  have H0 : Hid (St w u0 (w.heap.size + 2) (w.heap.size + 3) Oct.none) := hst
  have HU : Hid (u0 = _) := hu0
  clear hA hB hst hu0
  unfold setV
  go_enter Try.func22, Try.ntmps22
  go_wp2
  rw [← HU.out]
  clear HU
  go_loopw [6] (fun i u => ∃ k : Nat, k ≤ 256 ∧ i = .int .i64 k ∧ Hid (SB u w.heap.size s) ∧ Hid (SB u (w.heap.size + 1) t) ∧ Hid (St w u (w.heap.size + 2) (w.heap.size + 3) (Oct.below k (Oct.meet s t)))) (fun i _ => 256 - (intOf i).toNat)
  case atStart => exact ⟨0, Nat.zero_le _, rfl, HA0, HB0, by rw [Oct.below_zero]; exact H0⟩
  case round =>
    clear HA0 HB0 H0
    obtain ⟨k, hk, rfl, ha, hb, hs⟩ := hrel
    obtain ⟨x, hx⟩ : ∃ x, x = Oct.below k (Oct.meet s t) := ⟨_, rfl⟩
    have HX : Hid (x = Oct.below k (Oct.meet s t)) := hx
    rw [← hx] at hs
    clear hx
    by_cases hlt : k < 256
    · obtain ⟨c0, c1, c2, c3⟩ := ha.out.cells
      go_wp2_with fail
      refine (rhas_any s k _ hlt).mono ?_
      rintro e w3 ⟨rfl, hb3⟩
      have HA3 : Hid (SB w3 w.heap.size s) := ha.out.later hb3
      have HB3 : Hid (SB w3 (w.heap.size + 1) t) := hb.out.later hb3
      have HS3 : Hid (St w w3 (w.heap.size + 2) (w.heap.size + 3) x) := hs.out.later hb3
      clear ha hb hs hb3 c0 c1 c2 c3
      obtain ⟨c0, c1, c2, c3⟩ := HB3.out.cells
      go_wp2_with fail
      refine (rhas_any t k _ hlt).mono ?_
      rintro e w4 ⟨rfl, hb4⟩
      have HA4 : Hid (SB w4 w.heap.size s) := HA3.out.later hb4
      have HB4 : Hid (SB w4 (w.heap.size + 1) t) := HB3.out.later hb4
      have HS4 : Hid (St w w4 (w.heap.size + 2) (w.heap.size + 3) x) := HS3.out.later hb4
      clear HA3 HB3 HS3 hb4 c0 c1 c2 c3
      obtain ⟨⟨c0, c1, c2, c3⟩, ⟨f0, f1, f2, f3⟩, ⟨d0, d1, d2, d3⟩, ⟨g0, g1, g2, g3⟩⟩ := HS4.out.facts
      cases hsk : s k with
      | false =>
        have HT : Hid (Oct.meet s t k = false) := by show Oct.meet s t k = false; simp [Oct.meet, hsk]
        go_wp2
        go_roundw
        case rel => exact ⟨k + 1, by omega, by go_num, HA4, HB4, HS4.out.as (fun c _ => by rw [HX.out]; exact Oct.below_no k _ HT.out c)⟩
        case measure => simp [intOf]; omega
      | true =>
        cases htk : t k with
        | false =>
          have HT : Hid (Oct.meet s t k = false) := by show Oct.meet s t k = false; simp [Oct.meet, htk]
          go_wp2
          go_roundw
          case rel => exact ⟨k + 1, by omega, by go_num, HA4, HB4, HS4.out.as (fun c _ => by rw [HX.out]; exact Oct.below_no k _ HT.out c)⟩
          case measure => simp [intOf]; omega
        | true =>
          have HT : Hid (Oct.meet s t k = true) := by show Oct.meet s t k = true; simp [Oct.meet, hsk, htk]
          clear hsk htk
          go_wp2_with fail
          refine (rwith_any x k _ hlt).mono ?_
          rintro e w5 ⟨rfl, hb5⟩
          have HA5 : Hid (SB w5 w.heap.size s) := HA4.out.later hb5
          have HB5 : Hid (SB w5 (w.heap.size + 1) t) := HB4.out.later hb5
          have HS5 : Hid (St w w5 (w.heap.size + 2) (w.heap.size + 3) x) := HS4.out.later hb5
          clear HA4 HB4 HS4 hb5 c0 c1 c2 c3 f0 f1 f2 f3 d0 d1 d2 d3 g0 g1 g2 g3
          obtain ⟨⟨c0, c1, c2, c3⟩, ⟨f0, f1, f2, f3⟩, _, _⟩ := HS5.out.facts
          unfold setV
          go_wp2
          go_roundw
          case rel => exact ⟨k + 1, by omega, by go_num, HA5.out.put4_other (by omega) _, HB5.out.put4_other (by omega) _, (HS5.out.put (by omega) (by omega) (Oct.ins x k)).as (fun c _ => by rw [HX.out]; exact Oct.below_yes k _ HT.out c)⟩
          case measure => simp [intOf]; omega
    · have HK : Hid (k = 256) := by show k = 256; omega
      obtain ⟨⟨c0, c1, c2, c3⟩, ⟨f0, f1, f2, f3⟩, ⟨d0, d1, d2, d3⟩, ⟨g0, g1, g2, g3⟩⟩ := hs.out.facts
      go_wp2
      exact hs.out.ret Try.f22 4 rfl rfl rfl (by omega) _ (fun c hc => by rw [HX.out, HK.out]; exact Oct.below_all _ c hc)

set_option maxRecDepth 4000 in
set_option maxHeartbeats 1000000 in
theorem rnot_any (s : Oct.S) (w : World) : Calls Try.prog 23 #[setV s] w fun e w' => e = .returned (setV (Oct.inv s)) ∧ Below w.heap.size w w' := by
  obtain ⟨u0, hu0, hA, hst⟩ := start_not w s
  have HA0 : Hid (SB u0 w.heap.size s) := hA
  have H0 : Hid (St w u0 (w.heap.size + 1) (w.heap.size + 2) Oct.none) := hst
  have HU : Hid (u0 = _) := hu0
  clear hA hst hu0
  unfold setV
  go_enter Try.func23, Try.ntmps23
  go_wp2
  rw [← HU.out]
  clear HU
  go_loopw [4] (fun i u => ∃ k : Nat, k ≤ 256 ∧ i = .int .i64 k ∧ Hid (SB u w.heap.size s) ∧ Hid (St w u (w.heap.size + 1) (w.heap.size + 2) (Oct.below k (Oct.inv s)))) (fun i _ => 256 - (intOf i).toNat)
  case atStart => exact ⟨0, Nat.zero_le _, rfl, HA0, by rw [Oct.below_zero]; exact H0⟩
  case round =>
    clear HA0 H0
    obtain ⟨k, hk, rfl, ha, hs⟩ := hrel
    obtain ⟨x, hx⟩ : ∃ x, x = Oct.below k (Oct.inv s) := ⟨_, rfl⟩
    have HX : Hid (x = Oct.below k (Oct.inv s)) := hx
    rw [← hx] at hs
    clear hx
    by_cases hlt : k < 256
    · obtain ⟨c0, c1, c2, c3⟩ := ha.out.cells
      go_wp2_with fail
      refine (rhas_any s k _ hlt).mono ?_
      rintro e w4 ⟨rfl, hb4⟩
      have HA4 : Hid (SB w4 w.heap.size s) := ha.out.later hb4
      have HS4 : Hid (St w w4 (w.heap.size + 1) (w.heap.size + 2) x) := hs.out.later hb4
      clear ha hs hb4 c0 c1 c2 c3
      obtain ⟨⟨c0, c1, c2, c3⟩, ⟨f0, f1, f2, f3⟩, ⟨d0, d1, d2, d3⟩, ⟨g0, g1, g2, g3⟩⟩ := HS4.out.facts
      cases hsk : s k with
      | true =>
        have HT : Hid (Oct.inv s k = false) := by show Oct.inv s k = false; simp [Oct.inv, hsk]
        go_wp2
        go_roundw
        case rel => exact ⟨k + 1, by omega, by go_num, HA4, HS4.out.as (fun c _ => by rw [HX.out]; exact Oct.below_no k _ HT.out c)⟩
        case measure => simp [intOf]; omega
      | false =>
        by_cases h10 : k = 10
        · subst h10
          have HT : Hid (Oct.inv s 10 = false) := by show Oct.inv s 10 = false; simp [Oct.inv]
          go_wp2
          go_roundw
          case rel => exact ⟨10 + 1, by omega, by go_num, HA4, HS4.out.as (fun c _ => by rw [HX.out]; exact Oct.below_no 10 _ HT.out c)⟩
          case measure => simp [intOf]
        · have HT : Hid (Oct.inv s k = true) := by show Oct.inv s k = true; simp [Oct.inv, hsk, h10]
          clear hsk
          have h10' : ((k : Int) == 10) = false := by simp; omega
          have h10i : ¬ (k : Int) = 10 := by omega
          go_wp2_with fail
          refine (rwith_any x k _ hlt).mono ?_
          rintro e w5 ⟨rfl, hb5⟩
          have HA5 : Hid (SB w5 w.heap.size s) := HA4.out.later hb5
          have HS5 : Hid (St w w5 (w.heap.size + 1) (w.heap.size + 2) x) := HS4.out.later hb5
          clear HA4 HS4 hb5 c0 c1 c2 c3 f0 f1 f2 f3 d0 d1 d2 d3 g0 g1 g2 g3
          obtain ⟨⟨c0, c1, c2, c3⟩, ⟨f0, f1, f2, f3⟩, _, _⟩ := HS5.out.facts
          unfold setV
          go_wp2
          go_roundw
          case rel => exact ⟨k + 1, by omega, by go_num, HA5.out.put4_other (by omega) _, (HS5.out.put (by omega) (by omega) (Oct.ins x k)).as (fun c _ => by rw [HX.out]; exact Oct.below_yes k _ HT.out c)⟩
          case measure => simp [intOf]; omega
    · have HK : Hid (k = 256) := by show k = 256; omega
      obtain ⟨⟨c0, c1, c2, c3⟩, ⟨f0, f1, f2, f3⟩, ⟨d0, d1, d2, d3⟩, ⟨g0, g1, g2, g3⟩⟩ := hs.out.facts
      go_wp2
      exact hs.out.ret Try.f23 2 rfl rfl rfl (by omega) _ (fun c hc => by rw [HX.out, HK.out]; exact Oct.below_all _ c hc)

set_option maxRecDepth 4000 in
set_option maxHeartbeats 1000000 in
theorem rspan_any (f t : Nat) (w : World) :
    Calls Try.prog 27 #[.int .i64 f, .int .i64 t] w fun e w' => e = .returned (setV (Oct.span f t)) ∧ Below w.heap.size w w' := by
  have H0 := start2_hid w
  go_enter Try.func27, Try.ntmps27
  go_wp2
  go_loopw [6] (fun i u => ∃ k : Nat, k ≤ 256 ∧ i = .int .i64 k ∧ Hid (St w u w.heap.size (w.heap.size + 1) (Oct.below k (Oct.span f t)))) (fun i _ => 256 - (intOf i).toNat)
  case atStart => exact ⟨0, Nat.zero_le _, rfl, by rw [Oct.below_zero]; exact H0⟩
  case round =>
    clear H0
    obtain ⟨k, hk, rfl, hs⟩ := hrel
    obtain ⟨x, hx⟩ : ∃ x, x = Oct.below k (Oct.span f t) := ⟨_, rfl⟩
    have HX : Hid (x = Oct.below k (Oct.span f t)) := hx
    rw [← hx] at hs
    clear hx
    obtain ⟨⟨c0, c1, c2, c3⟩, ⟨f0, f1, f2, f3⟩, ⟨d0, d1, d2, d3⟩, ⟨g0, g1, g2, g3⟩⟩ := hs.out.facts
    by_cases hlt : k < 256
    · by_cases hin : f ≤ k ∧ k ≤ t
      · obtain ⟨h1, h2⟩ := hin
        have HT : Hid (Oct.span f t k = true) := by show Oct.span f t k = true; simp [Oct.span, h1, h2]
        go_wp2_with fail
        refine (rwith_any x k _ hlt).mono ?_
        rintro e w5 ⟨rfl, hb5⟩
        have HS5 : Hid (St w w5 w.heap.size (w.heap.size + 1) x) := hs.out.later hb5
        clear hs hb5 c0 c1 c2 c3 f0 f1 f2 f3 d0 d1 d2 d3 g0 g1 g2 g3
        obtain ⟨⟨c0, c1, c2, c3⟩, ⟨f0, f1, f2, f3⟩, _, _⟩ := HS5.out.facts
        unfold setV
        go_wp2
        go_roundw
        case rel => exact ⟨k + 1, by omega, by go_num, (HS5.out.put (by omega) (by omega) (Oct.ins x k)).as (fun c _ => by rw [HX.out]; exact Oct.below_yes k _ HT.out c)⟩
        case measure => simp [intOf]; omega
      · have HT : Hid (Oct.span f t k = false) := by
          show Oct.span f t k = false
          simp only [Oct.span, Bool.and_eq_false_iff, decide_eq_false_iff_not]
          omega
        by_cases h1 : f ≤ k
        · have h2 : ¬ k ≤ t := fun h => hin ⟨h1, h⟩
          clear hin
          go_wp2
          go_roundw
          case rel => exact ⟨k + 1, by omega, by go_num, hs.out.as (fun c _ => by rw [HX.out]; exact Oct.below_no k _ HT.out c)⟩
          case measure => simp [intOf]; omega
        · clear hin
          go_wp2
          go_roundw
          case rel => exact ⟨k + 1, by omega, by go_num, hs.out.as (fun c _ => by rw [HX.out]; exact Oct.below_no k _ HT.out c)⟩
          case measure => simp [intOf]; omega
    · have HK : Hid (k = 256) := by show k = 256; omega
      go_wp2
      exact hs.out.ret Try.f27 4 rfl rfl rfl (by omega) _ (fun c hc => by rw [HX.out, HK.out]; exact Oct.below_all _ c hc)
end Go.Proofs.Ytkgpmaclaahmbaa
