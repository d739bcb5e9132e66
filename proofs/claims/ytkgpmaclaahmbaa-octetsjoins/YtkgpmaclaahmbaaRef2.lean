/- Contracts of the document's Of and Join of layer 3: by walking their bodies. -/
import Derived.Test.YtkgpmaclaahmbaaSets2
import Derived.Deep.RegionHeld3
import Derived.Deep.DrawnRows
namespace Go.Proofs.Ytkgpmaclaahmbaa
open Go.RowKit
attribute [local go_sem ↓] Go.wp_at_zero Go.wp_at_succ

set_option maxRecDepth 4000 in
set_option maxHeartbeats 1000000 in
theorem rof_any (a : Option Addr) (n cap : Nat) (bs : List Nat) (w : World) (hn : n = bs.length) (hl : n ≤ maxLen) (hat : BytesAt w a bs) (hb : ∀ b ∈ bs, b < 256) :
    Calls Try.prog 24 #[.slice a n cap] w fun e w' => e = .returned (setV (Oct.has bs)) ∧ Below w.heap.size w w' := by
  unfold maxLen at hl
  have HN : Hid (n = bs.length) := hn
  have HAT : Hid (BytesAt w a bs) := hat
  have HBS : Hid (∀ b ∈ bs, b < 256) := hb
  clear hn hat hb
  have H0 := start2_hid w
  go_enter Try.func24, Try.ntmps24
  go_wp2
  go_loopw [4] (fun i u => ∃ k : Nat, k ≤ n ∧ i = .int .i64 k ∧ Hid (St w u w.heap.size (w.heap.size + 1) (Oct.has (bs.take k)))) (fun i _ => n - (intOf i).toNat)
  case atStart => exact ⟨0, Nat.zero_le _, rfl, H0.out.as (fun b _ => by simp [Oct.has, Oct.none])⟩
  case round =>
    clear H0
    obtain ⟨k, hk, rfl, hs⟩ := hrel
    obtain ⟨s, hS⟩ : ∃ s, s = Oct.has (bs.take k) := ⟨_, rfl⟩
    have HS : Hid (s = Oct.has (bs.take k)) := hS
    rw [← hS] at hs
    clear hS
    by_cases hlt : k < n
    · have hkl : k < bs.length := by rw [← HN.out]; exact hlt
      obtain ⟨g, o, rfl, h1⟩ := bytesAt_cell HAT.out hs.out.2.2 hkl
      have h2 : bs.getD k 0 < 256 := HBS.out _ (getD_mem hkl)
      obtain ⟨b, hbe⟩ : ∃ b, b = bs.getD k 0 := ⟨_, rfl⟩
      rw [← hbe] at h1 h2
      have HBE : Hid (b = bs.getD k 0) := hbe
      have HKL : Hid (k < bs.length) := hkl
      clear hbe hkl
      obtain ⟨⟨c0, c1, c2, c3⟩, ⟨f0, f1, f2, f3⟩, _, _⟩ := hs.out.facts
      have hk0 : (0 : Int) ≤ (k : Int) := by omega
      have hk1 : (k : Int) < (n : Int) := by omega
      go_wp2_with fail
      have hwb : IntKind.i64.wrap (b : Int) = b := by rw [IntKind.wrap_i64]; omega
      go_region_with (first | (go_at_call 33; refine (rwith_any s b _ h2).mono ?_; rintro e w3 ⟨rfl, hb3⟩; have HS3 : Hid (St w w3 w.heap.size (w.heap.size + 1) s) := (hs.out.later ((Below.refl _ _).drew)).later hb3; obtain ⟨⟨c0, c1, c2, c3⟩, ⟨f0, f1, f2, f3⟩, _, _⟩ := HS3.out.facts; clear hb3 hs; unfold setV))
      all_goals
        go_wp2
        go_roundw
        case rel => exact ⟨k + 1, by omega, by go_num, (HS3.out.put (by omega) (by omega) (Oct.ins s b)).as (fun c _ => by rw [HS.out, HBE.out]; exact Oct.has_take_succ bs k HKL.out c)⟩
        case measure => simp [intOf]; omega
    · obtain ⟨⟨c0, c1, c2, c3⟩, ⟨f0, f1, f2, f3⟩, ⟨d0, d1, d2, d3⟩, ⟨g0, g1, g2, g3⟩⟩ := hs.out.facts
      go_wp2
      exact hs.out.ret Try.f24 2 rfl rfl rfl (Nat.le_refl _) _ (fun c _ => by rw [HS.out, List.take_of_length_le (by rw [← HN.out]; omega)])

set_option maxRecDepth 4000 in
set_option maxHeartbeats 1000000 in
theorem rjoin_any (a : Option Addr) (n cap : Nat) (l : List Oct.S) (w : World) (hn : n = l.length) (hl : n ≤ maxLen) (hat : SetsAt w a l) :
    Calls Try.prog 21 #[.slice a n cap] w fun e w' => e = .returned (setV (Oct.joins l)) ∧ Below w.heap.size w w' := by
  unfold maxLen at hl
  have HN : Hid (n = l.length) := hn
  have HAT : Hid (SetsAt w a l) := hat
  clear hn hat
  have H0 := start2_hid w
  go_enter Try.func21, Try.ntmps21
  go_wp2
  go_loopw [4] (fun i u => ∃ k : Nat, k ≤ 256 ∧ i = .int .i64 k ∧ Hid (St w u w.heap.size (w.heap.size + 1) (Oct.below k (Oct.joins l)))) (fun i _ => 256 - (intOf i).toNat)
  case atStart => exact ⟨0, Nat.zero_le _, rfl, by rw [Oct.below_zero]; exact H0⟩
  case round =>
    clear H0
    obtain ⟨k, hk, rfl, hs⟩ := hrel
    obtain ⟨x, hx⟩ : ∃ x, x = Oct.below k (Oct.joins l) := ⟨_, rfl⟩
    have HX : Hid (x = Oct.below k (Oct.joins l)) := hx
    rw [← hx] at hs
    clear hx
    by_cases hlt : k < 256
    · have hd : decide ((k : Int) < 256) = true := by simp; omega
      go_wp2
      go_loopw [5, 6] (fun y i u => ∃ j : Nat, j ≤ n ∧ i = .int .i64 j ∧ y = .bool (Oct.joins (l.take j) k) ∧ Hid (St w u w.heap.size (w.heap.size + 1) x)) (fun _ i _ => n - (intOf i).toNat)
      case atStart => exact ⟨0, Nat.zero_le _, rfl, by simp [Oct.joins], hs⟩
      case round =>
        clear hs
        obtain ⟨j, hj, rfl, rfl, hs2⟩ := hrel
        obtain ⟨z, hz⟩ : ∃ z, z = Oct.joins (l.take j) k := ⟨_, rfl⟩
        have HZ : Hid (z = Oct.joins (l.take j) k) := hz
        rw [← hz]
        clear hz
        by_cases hjn : j < n
        · have hjl : j < l.length := by rw [← HN.out]; exact hjn
          obtain ⟨q, hq⟩ : ∃ q, l[j]? = some q := ⟨_, List.getElem?_eq_getElem hjl⟩
          obtain ⟨g, o, rfl, h0, h1, h2, h3⟩ := setsAt_cell HAT.out hs2.out.2.2 hq
          have HQ : Hid (Oct.joins (l.take (j + 1)) k = (z || q k)) := by
            show _ = _
            rw [HZ.out, ← Oct.joins_take_succ l j q hq k]
            rfl
          clear hq hjl
          go_wp2_with fail
          refine (rhas_any q k _ hlt).mono ?_
          rintro e w3 ⟨rfl, hb3⟩
          have HS3 : Hid (St w w3 w.heap.size (w.heap.size + 1) x) := hs2.out.later hb3
          clear hs2 hb3 h0 h1 h2 h3
          cases hzz : z with
          | true =>
            subst hzz
            go_wp2
            go_roundw
            case rel => exact ⟨j + 1, by omega, by go_num, by rw [HQ.out]; simp, HS3⟩
            case measure => simp [intOf]; omega
          | false =>
            subst hzz
            go_wp2
            go_roundw
            case rel => exact ⟨j + 1, by omega, by go_num, by rw [HQ.out]; simp, HS3⟩
            case measure => simp [intOf]; omega
        · have HE : Hid (z = Oct.joins l k) := by
            show _ = _
            rw [HZ.out, List.take_of_length_le (by rw [← HN.out]; omega)]
          obtain ⟨⟨c0, c1, c2, c3⟩, ⟨f0, f1, f2, f3⟩, ⟨d0, d1, d2, d3⟩, ⟨g0, g1, g2, g3⟩⟩ := hs2.out.facts
          clear HZ
          cases hzz : z with
          | true =>
            subst hzz
            go_wp2_with fail
            refine (rwith_any x k _ hlt).mono ?_
            rintro e w5 ⟨rfl, hb5⟩
            have HS5 : Hid (St w w5 w.heap.size (w.heap.size + 1) x) := hs2.out.later hb5
            clear hs2 hb5 c0 c1 c2 c3 f0 f1 f2 f3 d0 d1 d2 d3 g0 g1 g2 g3
            obtain ⟨⟨c0, c1, c2, c3⟩, ⟨f0, f1, f2, f3⟩, _, _⟩ := HS5.out.facts
            unfold setV
            go_wp2
            go_roundw
            case rel => exact ⟨k + 1, by omega, by go_num, (HS5.out.put (by omega) (by omega) (Oct.ins x k)).as (fun c _ => by rw [HX.out]; exact Oct.below_yes k _ HE.out.symm c)⟩
            case measure => simp [intOf]; omega
          | false =>
            subst hzz
            go_wp2
            go_roundw
            case rel => exact ⟨k + 1, by omega, by go_num, hs2.out.as (fun c _ => by rw [HX.out]; exact Oct.below_no k _ HE.out.symm c)⟩
            case measure => simp [intOf]; omega
    · have HK : Hid (k = 256) := by show k = 256; omega
      obtain ⟨⟨c0, c1, c2, c3⟩, ⟨f0, f1, f2, f3⟩, ⟨d0, d1, d2, d3⟩, ⟨g0, g1, g2, g3⟩⟩ := hs.out.facts
      go_wp2
      exact hs.out.ret Try.f21 2 rfl rfl rfl (by omega) _ (fun c hc => by rw [HX.out, HK.out]; exact Oct.below_all _ c hc)
end Go.Proofs.Ytkgpmaclaahmbaa
