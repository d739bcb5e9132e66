/- Contracts of octets.Of, Span and Count: by walking their bodies. -/
import Derived.Test.YtkgpmaclaahmbaaMem
namespace Go.Proofs.Ytkgpmaclaahmbaa
open Go.RowKit

set_option maxHeartbeats 400000 in
theorem of_any (a : Option Addr) (n cap : Nat) (bs : List Nat) (w : World) (hn : n = bs.length) (hl : n ≤ maxLen) (hat : BytesAt w a bs) (hb : ∀ b ∈ bs, b < 256) :
    Calls Try.prog 13 #[.slice a n cap] w fun e w' => e = .returned (setV (Oct.has bs)) ∧ Below w.heap.size w w' := by
  unfold maxLen at hl
  have HN : Hid (n = bs.length) := hn
  have HAT : Hid (BytesAt w a bs) := hat
  have HBS : Hid (∀ b ∈ bs, b < 256) := hb
  clear hn hat hb
  have H0 := start2_hid w
  go_enter Try.func13, Try.ntmps13
  go_wp2
  go_loopw [8] (fun i u => ∃ k : Nat, k ≤ n ∧ i = .int .i64 k ∧ Hid (St w u w.heap.size (w.heap.size + 1) (Oct.has (bs.take k)))) (fun i _ => n - (intOf i).toNat)
  case atStart => exact ⟨0, Nat.zero_le _, rfl, H0.out.as (fun b _ => by simp [Oct.has, Oct.none])⟩
  case round =>
    clear H0
    obtain ⟨k, hk, rfl, hs⟩ := hrel
    obtain ⟨s, hS⟩ : ∃ s, s = Oct.has (bs.take k) := ⟨_, rfl⟩
    have HS : Hid (s = Oct.has (bs.take k)) := hS
    rw [← hS] at hs
    clear hS
    obtain ⟨⟨c0, c1, c2, c3⟩, ⟨f0, f1, f2, f3⟩, ⟨d0, d1, d2, d3⟩, ⟨g0, g1, g2, g3⟩⟩ := hs.out.facts
    by_cases hlt : k < n
    · have hkl : k < bs.length := by rw [← HN.out]; exact hlt
      obtain ⟨g, o, rfl, h1⟩ := bytesAt_cell HAT.out hs.out.2.2 hkl
      have h2 : bs.getD k 0 < 256 := HBS.out _ (getD_mem hkl)
      obtain ⟨b, hbe⟩ : ∃ b, b = bs.getD k 0 := ⟨_, rfl⟩
      rw [← hbe] at h1 h2
      have HBE : Hid (b = bs.getD k 0) := hbe
      have HKL : Hid (k < bs.length) := hkl
      clear hbe hkl
      go_wp2_with fail
      refine (with_any s b _ h2).mono ?_
      rintro e w3 ⟨rfl, hb3⟩
      have HS3 : Hid (St w w3 w.heap.size (w.heap.size + 1) s) := hs.out.later hb3
      clear hs hb3 c0 c1 c2 c3 f0 f1 f2 f3 d0 d1 d2 d3 g0 g1 g2 g3 h1
      obtain ⟨⟨c0, c1, c2, c3⟩, ⟨f0, f1, f2, f3⟩, _, _⟩ := HS3.out.facts
      unfold setV
      go_wp2
      go_roundw
      case rel => exact ⟨k + 1, by omega, by go_num, (HS3.out.put (by omega) (by omega) (Oct.ins s b)).as (fun c _ => by rw [HS.out, HBE.out]; exact Oct.has_take_succ bs k HKL.out c)⟩
      case measure => simp [intOf]; omega
    · go_wp2
      exact hs.out.ret Try.f13 2 rfl rfl rfl (Nat.le_refl _) _ (fun c _ => by rw [HS.out, List.take_of_length_le (by rw [← HN.out]; omega)])

set_option maxHeartbeats 400000 in
theorem span_any (f t : Nat) (w : World) (hf : f < 256) (ht : t < 256) :
    Calls Try.prog 10 #[.int .u8 f, .int .u8 t] w fun e w' => e = .returned (setV (Oct.span f t)) ∧ Below w.heap.size w w' := by
  have H0 := start2_hid w
  go_enter Try.func10, Try.ntmps10
  go_wp2
  go_loopw [13] (fun i u => ∃ k : Nat, (k = 0 ∨ f + k ≤ t + 1) ∧ i = .int .i64 k ∧ Hid (St w u w.heap.size (w.heap.size + 1) (Oct.run f k))) (fun i _ => 256 - (intOf i).toNat)
  case atStart => exact ⟨0, Or.inl rfl, rfl, H0.out.as (fun b _ => by simp [Oct.run, Oct.none])⟩
  case round =>
    clear H0
    obtain ⟨k, hk, rfl, hs⟩ := hrel
    have hk2 : k ≤ 256 := by omega
    have HK : Hid (k = 0 ∨ f + k ≤ t + 1) := hk
    obtain ⟨s, hS⟩ : ∃ s, s = Oct.run f k := ⟨_, rfl⟩
    have HS : Hid (s = Oct.run f k) := hS
    rw [← hS] at hs
    clear hS
    obtain ⟨⟨c0, c1, c2, c3⟩, ⟨f0, f1, f2, f3⟩, ⟨d0, d1, d2, d3⟩, ⟨g0, g1, g2, g3⟩⟩ := hs.out.facts
    by_cases hlt : (k : Int) < (t : Int) - (f : Int) + 1
    · have h256 : f + k < 256 := by omega
      clear hk
      go_wp2_with fail
      refine (with_sum s f k _ h256).mono ?_
      rintro e w3 ⟨rfl, hb3⟩
      have HS3 : Hid (St w w3 w.heap.size (w.heap.size + 1) s) := hs.out.later hb3
      clear hs hb3 c0 c1 c2 c3 f0 f1 f2 f3 d0 d1 d2 d3 g0 g1 g2 g3
      obtain ⟨⟨c0, c1, c2, c3⟩, ⟨f0, f1, f2, f3⟩, _, _⟩ := HS3.out.facts
      unfold setV
      go_wp2
      go_roundw
      case rel => exact ⟨k + 1, by omega, by go_num, (HS3.out.put (by omega) (by omega) (Oct.ins s (f + k))).as (fun c _ => by rw [HS.out]; exact Oct.run_succ f k c)⟩
      case measure => simp [intOf]; omega
    · clear hk
      go_wp2
      exact hs.out.ret Try.f10 4 rfl rfl rfl (Nat.le_refl _) _ (fun c _ => by
        have := HK.out
        rw [HS.out]
        simp only [Oct.run, Oct.span]
        rw [Bool.eq_iff_iff]
        simp only [Bool.and_eq_true, decide_eq_true_eq]
        omega)
set_option maxRecDepth 4000 in
set_option maxHeartbeats 400000 in
theorem count_core (s : Oct.S) (N : Nat) (w : World) (hN : N = Oct.count s 256) : Calls Try.prog 14 #[setV s] w fun e w' => e = .returned (.int .i64 (N : Nat)) ∧ Below w.heap.size w w' := by
  have HN : Hid (N = Oct.count s 256) := hN
  clear hN
  have H0 : Hid (SB (w.alloc (.cells #[.int .u64 (Oct.word s 0 : Nat), .int .u64 (Oct.word s 1 : Nat), .int .u64 (Oct.word s 2 : Nat), .int .u64 (Oct.word s 3 : Nat)] 24)) w.heap.size s) := sb_new w s
  have HB : Hid (Below w.heap.size w (w.alloc (.cells #[.int .u64 (Oct.word s 0 : Nat), .int .u64 (Oct.word s 1 : Nat), .int .u64 (Oct.word s 2 : Nat), .int .u64 (Oct.word s 3 : Nat)] 24))) := (Below.refl w.heap.size w).alloc (Nat.le_refl _) _
  unfold setV
  go_enter Try.func14, Try.ntmps14
  go_wp2
  go_loopw [3, 5] (fun n i u => ∃ k : Nat, k ≤ 256 ∧ i = .int .i64 k ∧ n = .int .i64 (Oct.count s k : Nat) ∧ Hid (SB u w.heap.size s) ∧ Hid (Below w.heap.size w u)) (fun _ i _ => 256 - (intOf i).toNat)
  case atStart => exact ⟨0, Nat.zero_le _, rfl, rfl, H0.out, HB.out⟩
  case round =>
    clear H0 HB
    obtain ⟨k, hk, rfl, rfl, hs, hb⟩ := hrel
    have hc := Oct.count_le s k
    have HC : Hid (Oct.count s (k + 1) = Oct.count s k + if s k then 1 else 0) := Oct.count_succ s k
    obtain ⟨c, hce⟩ : ∃ c, c = Oct.count s k := ⟨_, rfl⟩
    rw [← hce] at hc HC ⊢
    have HCE : Hid (c = Oct.count s k) := hce
    clear hce
    obtain ⟨c0, c1, c2, c3⟩ := hs.out.cells
    by_cases hlt : k < 256
    · go_wp2_with fail
      refine (has_any s k _ hlt).mono ?_
      rintro e w3 ⟨rfl, hb3⟩
      have HS3 : Hid (SB w3 w.heap.size s) := hs.out.later hb3
      have HB3 : Hid (Below w.heap.size w w3) := below_trans hb.out hb3 hb.out.size
      clear hs hb hb3 c0 c1 c2 c3
      cases hsk : s k with
      | true =>
        have HT : Hid (s k = true) := hsk
        clear hsk
        go_wp2
        go_roundw
        case rel => exact ⟨k + 1, by omega, by go_num, by rw [HC.out, if_pos HT.out]; go_num, HS3.out, HB3.out⟩
        case measure => simp [intOf]; omega
      | false =>
        have HT : Hid (s k = false) := hsk
        clear hsk
        go_wp2
        go_roundw
        case rel => exact ⟨k + 1, by omega, by go_num, by rw [HC.out, if_neg (by rw [HT.out]; decide)]; go_num, HS3.out, HB3.out⟩
        case measure => simp [intOf]; omega
    · have HK : Hid (k = 256) := by show k = 256; omega
      go_wp2
      go_ret
      exact ⟨ret_int (by rw [HN.out, HCE.out, HK.out]), hb.out⟩
theorem count_any (s : Oct.S) (w : World) : Calls Try.prog 14 #[setV s] w fun e w' => e = .returned (.int .i64 (Oct.count s 256 : Nat)) ∧ Below w.heap.size w w' := count_core s _ w rfl
end Go.Proofs.Ytkgpmaclaahmbaa
