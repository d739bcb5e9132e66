/- Contracts of octets.Join, Meet and Not: by walking their bodies. -/
import Derived.Test.YtkgpmaclaahmbaaMem
namespace Go.Proofs.Ytkgpmaclaahmbaa
open Go.RowKit

theorem or_words (s t : Oct.S) (i : Nat) : bits .or .u64 (Oct.word s i : Nat) (Oct.word t i : Nat) = (Oct.word (Oct.join s t) i : Nat) := by
  rw [u64_or_nat _ _ (Oct.word_lt s i) (Oct.word_lt t i), Oct.word_join]
theorem and_words (s t : Oct.S) (i : Nat) : bits .and .u64 (Oct.word s i : Nat) (Oct.word t i : Nat) = (Oct.word (Oct.meet s t) i : Nat) := by
  rw [u64_and_nat _ _ (Oct.word_lt s i) (Oct.word_lt t i), Oct.word_meet]

set_option maxHeartbeats 1000000 in
theorem join_any (a : Option Addr) (n cap : Nat) (l : List Oct.S) (w : World) (hn : n = l.length) (hl : n ≤ maxLen) (hat : SetsAt w a l) :
    Calls Try.prog 12 #[.slice a n cap] w fun e w' => e = .returned (setV (Oct.joins l)) ∧ Below w.heap.size w w' := by
  unfold maxLen at hl
  have HN : Hid (n = l.length) := hn
  have HAT : Hid (SetsAt w a l) := hat
  clear hn hat
  have H0 := start2_hid w
  go_enter Try.func12, Try.ntmps12
  go_wp2
  go_loopw [10] (fun i u => ∃ k : Nat, k ≤ n ∧ i = .int .i64 k ∧ Hid (St w u w.heap.size (w.heap.size + 1) (Oct.joins (l.take k)))) (fun i _ => n - (intOf i).toNat)
  case atStart => exact ⟨0, Nat.zero_le _, rfl, H0.out.as (fun b _ => by simp [Oct.joins, Oct.none])⟩
  case round =>
    clear H0
    obtain ⟨k, hk, rfl, hs⟩ := hrel
    obtain ⟨s, hS⟩ : ∃ s, s = Oct.joins (l.take k) := ⟨_, rfl⟩
    have HS : Hid (s = Oct.joins (l.take k)) := hS
    rw [← hS] at hs
    clear hS
    obtain ⟨⟨c0, c1, c2, c3⟩, ⟨f0, f1, f2, f3⟩, ⟨d0, d1, d2, d3⟩, ⟨g0, g1, g2, g3⟩⟩ := hs.out.facts
    by_cases hlt : k < n
    · have hkl : k < l.length := by rw [← HN.out]; exact hlt
      obtain ⟨x, hx⟩ : ∃ x, l[k]? = some x := ⟨_, List.getElem?_eq_getElem hkl⟩
      obtain ⟨g, o, rfl, h0, h1, h2, h3⟩ := setsAt_cell HAT.out hs.out.2.2 hx
      have HX : Hid (l[k]? = some x) := hx
      clear hx hkl
      have H2 : Hid (St w (wr.alloc (.cells #[.int .u64 (Oct.word x 0 : Nat), .int .u64 (Oct.word x 1 : Nat), .int .u64 (Oct.word x 2 : Nat), .int .u64 (Oct.word x 3 : Nat)] 24)) w.heap.size (w.heap.size + 1) s) := hs.out.later ((Below.refl _ _).alloc (Nat.le_refl _) _)
      go_wp2
      go_loopw [15] (fun i u => ∃ j : Nat, j ≤ 4 ∧ i = .int .i64 j ∧ Hid (St w u w.heap.size (w.heap.size + 1) (Oct.upto j (Oct.join s x) s))) (fun i _ => 4 - (intOf i).toNat)
      case atStart => exact ⟨0, Nat.zero_le _, rfl, by rw [Oct.upto_zero]; exact H2⟩
      case round =>
        obtain ⟨j, hj, rfl, hs2⟩ := hrel
        clear c0 c1 c2 c3 f0 f1 f2 f3 d0 d1 d2 d3 g0 g1 g2 g3 h0 h1 h2 h3 hs H2
        obtain ⟨⟨c0, c1, c2, c3⟩, ⟨f0, f1, f2, f3⟩, ⟨d0, d1, d2, d3⟩, ⟨g0, g1, g2, g3⟩⟩ := hs2.out.facts
        by_cases hj4 : j < 4
        · have hcases : j = 0 ∨ j = 1 ∨ j = 2 ∨ j = 3 := by omega
          clear hj4 hj
          rcases hcases with rfl | rfl | rfl | rfl
          all_goals
            have i0 := idx0
            have i1 := idx1
            have i2 := idx2
            have i3 := idx3
            go_wp2
            go_roundw
            case rel => exact ⟨_, by decide, rfl, hs2.out.set (by omega) (by omega) _ (by decide) _ (by rw [Oct.word_upto_ge _ _ _ _ (Nat.le_refl _), or_words, Oct.word_upto_lt _ _ _ _ (by decide)]) (fun i _ hne => Oct.word_upto_step _ _ i _ hne)⟩
            case measure => simp [intOf]
        · obtain rfl : j = 4 := by omega
          go_wp2
          go_roundw
          case rel => exact ⟨k + 1, by omega, by go_num, hs2.out.as (fun c hc => by rw [Oct.upto_all _ _ _ hc, HS.out]; exact Oct.joins_take_succ l k x HX.out c)⟩
          case measure => simp [intOf]; omega
    · go_wp2
      exact hs.out.ret Try.f12 2 rfl rfl rfl (Nat.le_refl _) _ (fun c _ => by rw [HS.out, List.take_of_length_le (by rw [← HN.out]; omega)])

theorem start_meet (w : World) (s t : Oct.S) : ∃ u, u = (((w.alloc (.cells #[.int .u64 (Oct.word s 0 : Nat), .int .u64 (Oct.word s 1 : Nat), .int .u64 (Oct.word s 2 : Nat), .int .u64 (Oct.word s 3 : Nat)] 24)).alloc (.cells #[.int .u64 (Oct.word t 0 : Nat), .int .u64 (Oct.word t 1 : Nat), .int .u64 (Oct.word t 2 : Nat), .int .u64 (Oct.word t 3 : Nat)] 24)).alloc (.cells #[.int .u64 0, .int .u64 0, .int .u64 0, .int .u64 0] 24)).alloc (.cells #[.int .u64 0, .int .u64 0, .int .u64 0, .int .u64 0] 24) ∧
    SB u w.heap.size s ∧ SB u (w.heap.size + 1) t ∧ St w u (w.heap.size + 2) (w.heap.size + 3) Oct.none := by
  refine ⟨_, rfl, ?_⟩
  obtain ⟨w1, h1⟩ : ∃ w1, w1 = w.alloc (.cells #[.int .u64 (Oct.word s 0 : Nat), .int .u64 (Oct.word s 1 : Nat), .int .u64 (Oct.word s 2 : Nat), .int .u64 (Oct.word s 3 : Nat)] 24) := ⟨_, rfl⟩
  have b1 : Below w.heap.size w w1 := by rw [h1]; exact (Below.refl _ _).alloc (Nat.le_refl _) _
  have z1 : w1.heap.size = w.heap.size + 1 := by rw [h1]; simp
  have a1 : SB w1 w.heap.size s := by rw [h1]; exact sb_new w s
  rw [← h1]
  clear h1
  obtain ⟨w2, h2⟩ : ∃ w2, w2 = w1.alloc (.cells #[.int .u64 (Oct.word t 0 : Nat), .int .u64 (Oct.word t 1 : Nat), .int .u64 (Oct.word t 2 : Nat), .int .u64 (Oct.word t 3 : Nat)] 24) := ⟨_, rfl⟩
  have b2 : Below w1.heap.size w1 w2 := by rw [h2]; exact (Below.refl _ _).alloc (Nat.le_refl _) _
  have z2 : w2.heap.size = w.heap.size + 2 := by rw [h2]; simp [z1]
  have a2 : SB w2 (w.heap.size + 1) t := by rw [h2, ← z1]; exact sb_new w1 t
  rw [← h2]
  clear h2
  have h3 := start2' w w2 (below_trans b1 b2 b1.size)
  rw [z2] at h3
  exact ⟨(a1.later b2).later (start2 w2).2.2, a2.later (start2 w2).2.2, h3⟩
set_option maxHeartbeats 1000000 in
theorem meet_any (s t : Oct.S) (w : World) : Calls Try.prog 19 #[setV s, setV t] w fun e w' => e = .returned (setV (Oct.meet s t)) ∧ Below w.heap.size w w' := by
  obtain ⟨u0, hu0, hA, hB, hst⟩ := start_meet w s t
  have HB0 : Hid (SB u0 (w.heap.size + 1) t) := hB
  have H0 : Hid (St w u0 (w.heap.size + 2) (w.heap.size + 3) Oct.none) := hst
  have HU : Hid (u0 = _) := hu0
  clear hA hB hst
  clear hu0
  unfold setV
  go_enter Try.func19, Try.ntmps19
  go_wp2
  rw [← HU.out]
  clear HU
  go_loopw [9] (fun i u => ∃ j : Nat, j ≤ 4 ∧ i = .int .i64 j ∧ Hid (SB u (w.heap.size + 1) t) ∧ Hid (St w u (w.heap.size + 2) (w.heap.size + 3) (Oct.upto j (Oct.meet s t) Oct.none))) (fun i _ => 4 - (intOf i).toNat)
  case atStart => exact ⟨0, Nat.zero_le _, rfl, HB0, by rw [Oct.upto_zero]; exact H0⟩
  case round =>
    clear HB0 H0
    obtain ⟨j, hj, rfl, hb, hs⟩ := hrel
    obtain ⟨⟨c0, c1, c2, c3⟩, ⟨f0, f1, f2, f3⟩, ⟨d0, d1, d2, d3⟩, ⟨g0, g1, g2, g3⟩⟩ := hs.out.facts
    obtain ⟨e0, e1, e2, e3⟩ := hb.out.cells
    by_cases hj4 : j < 4
    · have hcases : j = 0 ∨ j = 1 ∨ j = 2 ∨ j = 3 := by omega
      clear hj4 hj
      rcases hcases with rfl | rfl | rfl | rfl
      all_goals
        have i0 := idx0
        have i1 := idx1
        have i2 := idx2
        have i3 := idx3
        go_wp2
        go_roundw
        case rel => exact ⟨_, by decide, rfl, hb.out.other (by omega) _ _, hs.out.set (by omega) (by omega) _ (by decide) _ (by rw [and_words, Oct.word_upto_lt _ _ _ _ (by decide)]) (fun i _ hne => Oct.word_upto_step _ _ i _ hne)⟩
        case measure => simp [intOf]
    · obtain rfl : j = 4 := by omega
      go_wp2
      exact hs.out.ret Try.f19 4 rfl rfl rfl (by omega) _ (fun c hc => Oct.upto_all _ _ _ hc)

theorem start_not (w : World) (s : Oct.S) : ∃ u, u = ((w.alloc (.cells #[.int .u64 (Oct.word s 0 : Nat), .int .u64 (Oct.word s 1 : Nat), .int .u64 (Oct.word s 2 : Nat), .int .u64 (Oct.word s 3 : Nat)] 24)).alloc (.cells #[.int .u64 0, .int .u64 0, .int .u64 0, .int .u64 0] 24)).alloc (.cells #[.int .u64 0, .int .u64 0, .int .u64 0, .int .u64 0] 24) ∧
    SB u w.heap.size s ∧ St w u (w.heap.size + 1) (w.heap.size + 2) Oct.none := by
  refine ⟨_, rfl, ?_⟩
  obtain ⟨w1, h1⟩ : ∃ w1, w1 = w.alloc (.cells #[.int .u64 (Oct.word s 0 : Nat), .int .u64 (Oct.word s 1 : Nat), .int .u64 (Oct.word s 2 : Nat), .int .u64 (Oct.word s 3 : Nat)] 24) := ⟨_, rfl⟩
  have b1 : Below w.heap.size w w1 := by rw [h1]; exact (Below.refl _ _).alloc (Nat.le_refl _) _
  have z1 : w1.heap.size = w.heap.size + 1 := by rw [h1]; simp
  have a1 : SB w1 w.heap.size s := by rw [h1]; exact sb_new w s
  rw [← h1]
  clear h1
  have h3 := start2' w w1 b1
  rw [z1] at h3
  exact ⟨a1.later (start2 w1).2.2, h3⟩
theorem xor_word (s : Oct.S) (i : Nat) : bits .xor .u64 (if IntKind.u64.signed = true then -1 else IntKind.u64.max) (Oct.word s i : Nat) = (Oct.word (fun c => !(s c)) i : Nat) := by
  have e : (if IntKind.u64.signed = true then (-1 : Int) else IntKind.u64.max) = ((18446744073709551615 : Nat) : Int) := by simp [IntKind.signed, IntKind.max, IntKind.bits]
  rw [e, u64_xor_nat _ _ (by decide) (Oct.word_lt s i)]
  congr 1
  refine Oct.word_eq (Nat.xor_lt_two_pow (n := 64) (by decide) (Oct.word_lt s i)) (fun k hk => ?_)
  rw [Nat.testBit_xor, show (18446744073709551615 : Nat) = 2 ^ 64 - 1 from rfl, Nat.testBit_two_pow_sub_one, Oct.word_bit]
  simp [hk]
set_option maxHeartbeats 1000000 in
theorem not_any (s : Oct.S) (w : World) : Calls Try.prog 20 #[setV s] w fun e w' => e = .returned (setV (Oct.inv s)) ∧ Below w.heap.size w w' := by
  obtain ⟨u0, hu0, hA, hst⟩ := start_not w s
  have H0 : Hid (St w u0 (w.heap.size + 1) (w.heap.size + 2) Oct.none) := hst
  have HU : Hid (u0 = _) := hu0
  clear hA hst
  clear hu0
  unfold setV
  go_enter Try.func20, Try.ntmps20
  go_wp2
  rw [← HU.out]
  clear HU
  go_loopw [7] (fun i u => ∃ j : Nat, j ≤ 4 ∧ i = .int .i64 j ∧ Hid (St w u (w.heap.size + 1) (w.heap.size + 2) (Oct.upto j (fun c => !(s c)) Oct.none))) (fun i _ => 4 - (intOf i).toNat)
  case atStart => exact ⟨0, Nat.zero_le _, rfl, by rw [Oct.upto_zero]; exact H0⟩
  case round =>
    clear H0
    obtain ⟨j, hj, rfl, hs⟩ := hrel
    obtain ⟨⟨c0, c1, c2, c3⟩, ⟨f0, f1, f2, f3⟩, ⟨d0, d1, d2, d3⟩, ⟨g0, g1, g2, g3⟩⟩ := hs.out.facts
    by_cases hj4 : j < 4
    · have hcases : j = 0 ∨ j = 1 ∨ j = 2 ∨ j = 3 := by omega
      clear hj4 hj
      rcases hcases with rfl | rfl | rfl | rfl
      all_goals
        have i0 := idx0
        have i1 := idx1
        have i2 := idx2
        have i3 := idx3
        go_wp2
        go_roundw
        case rel => exact ⟨_, by decide, rfl, hs.out.set (by omega) (by omega) _ (by decide) _ (by rw [xor_word, Oct.word_upto_lt _ _ _ _ (by decide)]) (fun i _ hne => Oct.word_upto_step _ _ i _ hne)⟩
        case measure => simp [intOf]
    · obtain rfl : j = 4 := by omega
      obtain ⟨x, hx⟩ : ∃ x, x = Oct.upto 4 (fun c => !(s c)) Oct.none := ⟨_, rfl⟩
      have HX : Hid (x = Oct.upto 4 (fun c => !(s c)) Oct.none) := hx
      rw [← hx] at hs c0 c1 c2 c3
      clear hx
      go_wp2_with fail
      refine (without_any x 10 _ (by decide)).mono ?_
      rintro e w3 ⟨rfl, hb3⟩
      have HS3 : Hid (St w w3 (w.heap.size + 1) (w.heap.size + 2) x) := hs.out.later hb3
      clear hs hb3 c0 c1 c2 c3 f0 f1 f2 f3 d0 d1 d2 d3 g0 g1 g2 g3
      obtain ⟨_, _, ⟨d0, d1, d2, d3⟩, ⟨g0, g1, g2, g3⟩⟩ := HS3.out.facts
      unfold setV
      go_wp2
      have HS4 := HS3.out.put4_ret (Oct.del x 10)
      exact HS4 Try.f20 2 rfl rfl rfl (by omega) _ (fun c hc => by rw [HX.out]; simp only [Oct.del, Oct.inv]; rw [Oct.upto_all _ _ _ hc])
end Go.Proofs.Ytkgpmaclaahmbaa
