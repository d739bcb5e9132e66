/- The document's sets of layer 4: With, not, in, set. -/
import Derived.Test.YtlcnmfgmgiijpaaG02
import Derived.Test.YtlcnmfgmgiijpaaG06
namespace Go.Proofs.Ytlcnmfgmgiijpaa
open Go.RowKit
attribute [local go_sem ↓] Go.wp_at_zero Go.wp_at_succ

/-- a set and one byte more, never the newline -/
def wi (s : Oct.S) (b : Nat) : Oct.S := if b = 10 then s else Oct.ins s b
theorem start_with (w : World) (s : Oct.S) : ∃ u, u = (w.alloc (.cells #[.int .u64 (Oct.word s 0 : Nat), .int .u64 (Oct.word s 1 : Nat), .int .u64 (Oct.word s 2 : Nat), .int .u64 (Oct.word s 3 : Nat)] 25)).alloc (.cells #[.int .u64 0, .int .u64 0, .int .u64 0, .int .u64 0] 25) ∧ St w u (w.heap.size + 1) w.heap.size s := by
  refine ⟨_, rfl, ?_, (sb_new w s).later ((Below.refl _ _).alloc (Nat.le_refl _) _), ((Below.refl _ _).alloc (Nat.le_refl _) _).alloc (by simp) _⟩
  have h := sb_zero (w.alloc (.cells #[.int .u64 (Oct.word s 0 : Nat), .int .u64 (Oct.word s 1 : Nat), .int .u64 (Oct.word s 2 : Nat), .int .u64 (Oct.word s 3 : Nat)] 25))
  rw [World.size_alloc] at h
  exact h
set_option maxHeartbeats 1000000 in
theorem rwith_any (s : Oct.S) (b : Nat) (w : World) (hb : b < 256) : Calls Try.prog 55 #[setV s, .int .u8 b] w fun e w' => e = .returned (setV (wi s b)) ∧ Below w.heap.size w w' := by
  obtain ⟨u0, hu0, hst⟩ := start_with w s
  have H0 : Hid (St w u0 (w.heap.size + 1) w.heap.size s) := hst
  have HU : Hid (u0 = _) := hu0
  clear hst hu0
  unfold setV
  by_cases h10 : b = 10
  · subst h10
    obtain ⟨⟨c0, c1, c2, c3⟩, ⟨f0, f1, f2, f3⟩, ⟨d0, d1, d2, d3⟩, ⟨g0, g1, g2, g3⟩⟩ := H0.out.facts
    go_enter Try.func55, Try.ntmps55
    go_upto_region 1 with fail
    rw [← HU.out]
    go_wp2
    exact H0.out.ret Try.f55 4 rfl rfl rfl (by omega) _ (fun c _ => rfl)
  · have HW : Hid (wi s b = Oct.ins s b) := if_neg h10
    have q0 : ((b : Int) == 10) = false := by simp; omega
    have q1 : ((b : Int) != 10) = true := by simp; omega
    clear h10
    rcases quo4 hb with ⟨hn, hq⟩ | ⟨hn, hq⟩ | ⟨hn, hq⟩ | ⟨hn, hq⟩
    all_goals
      have HN : Hid (b / 64 = _) := hn
      clear hn
      obtain ⟨⟨c0, c1, c2, c3⟩, ⟨f0, f1, f2, f3⟩, ⟨d0, d1, d2, d3⟩, ⟨g0, g1, g2, g3⟩⟩ := H0.out.facts
      go_enter Try.func55, Try.ntmps55
      go_upto_region 1 with fail
      rw [← HU.out]
      clear HU
      go_upto_region 3 with fail
      have H1 := H0.out.set (t := Oct.ins s b) (by omega) (by omega) _ (by decide) _ (or_bit s b _ HN.out) (fun i _ hne => by have := ins_oth s b _ i HN.out hne.symm; omega)
      have H1 : Hid (St w _ (w.heap.size + 1) w.heap.size (Oct.ins s b)) := H1
      generalize World.setCell _ _ _ = u1 at H1 ⊢
      clear c0 c1 c2 c3 f0 f1 f2 f3 d0 d1 d2 d3 g0 g1 g2 g3 H0
      obtain ⟨⟨c0, c1, c2, c3⟩, ⟨f0, f1, f2, f3⟩, ⟨d0, d1, d2, d3⟩, ⟨g0, g1, g2, g3⟩⟩ := H1.out.facts
      go_wp2
      exact H1.out.ret Try.f55 4 rfl rfl rfl (by omega) _ (fun c _ => by rw [HW.out])
theorem bit_rem (s : Oct.S) (b i : Nat) (h : b / 64 = i) : (((Oct.word s i : Int) / 2 ^ (b % 64)).tmod 2 == 0) = !(s b) := by
  have hw := Oct.word_has s b
  rw [h] at hw
  have e : (((Oct.word s i : Nat) : Int) / 2 ^ (b % 64)).tmod 2 = ((Oct.word s i / 2 ^ (b % 64) % 2 : Nat) : Int) := by
    rw [Int.tmod_eq_emod_of_nonneg (Int.ediv_nonneg (by omega) (Int.le_of_lt (Int.pow_pos (by decide))))]
    simp
  rw [e, hw]
  cases s b <;> rfl
theorem bit_rem1 (s : Oct.S) (b i : Nat) (h : b / 64 = i) : (((Oct.word s i : Int) / 2 ^ (b % 64)).tmod 2 == 1) = s b := by
  have hw := Oct.word_has s b
  rw [h] at hw
  have e : (((Oct.word s i : Nat) : Int) / 2 ^ (b % 64)).tmod 2 = ((Oct.word s i / 2 ^ (b % 64) % 2 : Nat) : Int) := by
    rw [Int.tmod_eq_emod_of_nonneg (Int.ediv_nonneg (by omega) (Int.le_of_lt (Int.pow_pos (by decide))))]
    simp
  rw [e, hw]
  cases s b <;> rfl
theorem below_case (n : Nat) (f : Oct.S) (c : Nat) : Oct.below (n + 1) f c = if f n then Oct.ins (Oct.below n f) n c else Oct.below n f c := by
  cases h : f n with
  | true => rw [if_pos rfl]; exact (Oct.below_yes n f h c).symm
  | false => rw [if_neg (by decide)]; exact (Oct.below_no n f h c).symm
set_option maxRecDepth 4000 in
set_option maxHeartbeats 2000000 in
theorem rnot_any (s : Oct.S) (w : World) : Calls Try.prog 53 #[setV s] w fun e w' => e = .returned (setV (Oct.inv s)) ∧ Below w.heap.size w w' := by
  obtain ⟨u0, hu0, hA, hst⟩ := start_not w s
  have HA0 : Hid (SB u0 w.heap.size s) := hA
  have H0 : Hid (St w u0 (w.heap.size + 1) (w.heap.size + 2) Oct.none) := hst
  have HU : Hid (u0 = _) := hu0
  clear hA hst
  clear hu0
  unfold setV
  go_enter Try.func53, Try.ntmps53
  go_wp2
  rw [← HU.out]
  clear HU
  go_loopw [4] (fun i u => ∃ k : Nat, k ≤ 256 ∧ i = .int .i64 k ∧ Hid (SB u w.heap.size s) ∧ Hid (St w u (w.heap.size + 1) (w.heap.size + 2) (Oct.below k (Oct.inv s)))) (fun i _ => 256 - (intOf i).toNat)
  case atStart => exact ⟨0, Nat.zero_le _, rfl, HA0, by rw [Oct.below_zero]; exact H0⟩
  case round =>
    clear H0 HA0
    obtain ⟨k, hk, rfl, ha, hs⟩ := hrel
    obtain ⟨x, hx⟩ : ∃ x, x = Oct.below k (Oct.inv s) := ⟨_, rfl⟩
    have HX : Hid (x = Oct.below k (Oct.inv s)) := hx
    rw [← hx] at hs
    clear hx
    obtain ⟨⟨c0, c1, c2, c3⟩, ⟨f0, f1, f2, f3⟩, ⟨d0, d1, d2, d3⟩, ⟨g0, g1, g2, g3⟩⟩ := hs.out.facts
    by_cases hlt : k < 256
    · obtain ⟨e0, e1, e2, e3⟩ := ha.out.cells
      cases hsk : s k with
      | true =>
        have HT : Hid (Oct.inv s k = false) := (show Oct.inv s k = false by simp [Oct.inv, hsk])
        have HSK : Hid (s k = true) := hsk
        clear hsk
        rcases quo4 hlt with ⟨hn, hq⟩ | ⟨hn, hq⟩ | ⟨hn, hq⟩ | ⟨hn, hq⟩
        all_goals
          have hbit := bit_rem s k _ hn
          rw [HSK.out] at hbit
          have hbit := hbit.trans (show (!true) = false from rfl)
          clear hn
          go_wp2
          go_roundw
          case rel => exact ⟨k + 1, by omega, by go_num, ha, hs.out.as (fun c _ => by rw [HX.out, below_case, HT.out]; rfl)⟩
          case measure => simp [intOf]; omega
      | false =>
        have HT : Hid (∀ c, Oct.below (k + 1) (Oct.inv s) c = wi (Oct.below k (Oct.inv s)) k c) := fun c => by
          show _ = _
          rw [below_case]
          by_cases h10 : k = 10
          · subst h10; rw [show Oct.inv s 10 = false by simp [Oct.inv]]; rfl
          · rw [show Oct.inv s k = true by simp [Oct.inv, hsk, h10], wi, if_neg h10]; rfl
        have HSK : Hid (s k = false) := hsk
        clear hsk
        rcases quo4 hlt with ⟨hn, hq⟩ | ⟨hn, hq⟩ | ⟨hn, hq⟩ | ⟨hn, hq⟩
        all_goals
          have hbit := bit_rem s k _ hn
          rw [HSK.out] at hbit
          have hbit := hbit.trans (show (!false) = true from rfl)
          clear hn
          go_wp2_with (go_at_call 55; refine (rwith_any x k _ hlt).mono ?_; rintro e w5 ⟨rfl, hb5⟩; have HS5 : Hid (St w w5 (w.heap.size + 1) (w.heap.size + 2) x) := (hs.out.later hb5); have HA5 : Hid (SB w5 w.heap.size s) := (ha.out.later hb5); clear hb5 c0 c1 c2 c3 f0 f1 f2 f3 d0 d1 d2 d3 g0 g1 g2 g3 e0 e1 e2 e3; obtain ⟨⟨c0, c1, c2, c3⟩, ⟨f0, f1, f2, f3⟩, _, _⟩ := HS5.out.facts; unfold setV)
          go_roundw
          case rel => exact ⟨k + 1, by omega, by go_num, HA5.out.put4_other (by omega) _, (HS5.out.put (by omega) (by omega) (wi x k)).as (fun c _ => by rw [HX.out]; exact (HT.out c).symm)⟩
          case measure => simp [intOf]; omega
    · have HK : Hid (k = 256) := by show k = 256; omega
      go_wp2
      exact hs.out.ret Try.f53 2 rfl rfl rfl (by omega) _ (fun c hc => by rw [HX.out, HK.out]; exact Oct.below_all _ c hc)
end Go.Proofs.Ytlcnmfgmgiijpaa

/- The document's in of layer 4: a set and a row of bytes. -/
namespace Go.Proofs.Ytlcnmfgmgiijpaa
open Go.RowKit
attribute [local go_sem ↓] Go.wp_at_zero Go.wp_at_succ

/-- a set and the bytes from a number on below another one -/
def upIn (s : Oct.S) (f k : Nat) : Oct.S := fun c => s c || (decide (f ≤ c) && decide (c < k))
theorem upIn_self (s : Oct.S) (f : Nat) (c : Nat) : upIn s f f c = s c := by
  have : (decide (f ≤ c) && decide (c < f)) = false := by simp
  rw [upIn, this, Bool.or_false]
theorem upIn_succ (s : Oct.S) (f k : Nat) (h : f ≤ k) (c : Nat) : Oct.ins (upIn s f k) k c = upIn s f (k + 1) c := by
  simp only [Oct.ins, upIn]
  rw [Bool.eq_iff_iff]
  simp only [Bool.or_eq_true, beq_iff_eq, Bool.and_eq_true, decide_eq_true_eq]
  constructor
  · rintro (h1 | h1 | h1)
    · right; omega
    · exact Or.inl h1
    · right; omega
  · rintro (h1 | h1)
    · exact Or.inr (Or.inl h1)
    · by_cases e : c = k
      · exact Or.inl e
      · right; right; omega
theorem shl1 (k : Nat) (u : World) : (Op.shift BinOp.shl IntKind.u64 1 IntKind.i64 ((k : Int).tmod 64)).run Try.prog u = .ok (.int .u64 (IntKind.u64.wrap (2 ^ (k % 64)))) u := by
  have e : (k : Int).tmod 64 = ((k % 64 : Nat) : Int) := by rw [Int.tmod_eq_emod_of_nonneg (by omega)]; simp
  rw [e]
  simp [go_sem]
  rw [show ((k : Int) % 64).toNat = k % 64 by omega]
set_option maxRecDepth 4000 in
set_option maxHeartbeats 4000000 in
theorem rin_any (s : Oct.S) (f t : Nat) (w : World) (hft : f ≤ t) (ht : t < 256) : Calls Try.prog 80 #[setV s, .int .i64 (f : Nat), .int .i64 (t : Nat)] w fun e w' => e = .returned (setV (Oct.join s (Oct.span f t))) ∧ Below w.heap.size w w' := by
  obtain ⟨u0, hu0, hst⟩ := start_with w s
  have H0 : Hid (St w u0 (w.heap.size + 1) w.heap.size s) := hst
  have HU : Hid (u0 = _) := hu0
  clear hst hu0
  unfold setV
  go_enter Try.func80, Try.ntmps80
  go_upto_region 1 with fail
  rw [← HU.out]
  clear HU
  go_wp2_with fail
  go_loopw [7] (fun i u => ∃ k : Nat, f ≤ k ∧ k ≤ t + 1 ∧ i = .int .i64 k ∧ Hid (St w u (w.heap.size + 1) w.heap.size (upIn s f k))) (fun i _ => 256 - (intOf i).toNat)
  case atStart => exact ⟨f, Nat.le_refl _, by omega, rfl, H0.out.as (fun c _ => (upIn_self s f c).symm)⟩
  case round =>
    clear H0
    obtain ⟨k, hfk, hk, rfl, hs⟩ := hrel
    obtain ⟨x, hx⟩ : ∃ x, x = upIn s f k := ⟨_, rfl⟩
    have HX : Hid (x = upIn s f k) := hx
    rw [← hx] at hs
    clear hx
    obtain ⟨⟨c0, c1, c2, c3⟩, ⟨f0, f1, f2, f3⟩, ⟨d0, d1, d2, d3⟩, ⟨g0, g1, g2, g3⟩⟩ := hs.out.facts
    by_cases hlt : k ≤ t
    · have hlt2 : k < 256 := by omega
      have HK1 : Hid (k + 1 ≤ t + 1) := by show _ ≤ _; omega
      have hsh := shl1 k
      have hw0 : IntKind.i64.wrap 0 = 0 := rfl
      have hw1 : IntKind.i64.wrap 1 = 1 := rfl
      have hw2 : IntKind.i64.wrap 2 = 2 := rfl
      have hw3 : IntKind.i64.wrap 3 = 3 := rfl
      rcases quo4 hlt2 with ⟨hn, hq⟩ | ⟨hn, hq⟩ | ⟨hn, hq⟩ | ⟨hn, hq⟩
      all_goals
        have HN : Hid (k / 64 = _) := hn
        have hob := or_bit x k _ hn
        clear hn
        go_upto_region 4 with fail
        go_region_with (fail)
        all_goals
          go_wp2
          go_roundw
          case rel => exact ⟨k + 1, by omega, HK1.out, by go_num, ((hs.out.later (below_drewN _ _ _)).set (by omega) (by omega) _ (by decide) _ rfl (fun i _ hne => by have := ins_oth x k _ i HN.out hne.symm; omega)).as (fun c _ => by rw [HX.out]; exact upIn_succ s f k hfk c)⟩
          case measure => simp [intOf]; omega
    · have HK : Hid (k = t + 1) := by show k = t + 1; omega
      go_wp2
      exact hs.out.ret Try.f80 6 rfl rfl rfl (by omega) _ (fun c hc => by rw [HX.out, HK.out, upIn, Oct.join, Oct.span]; congr 2; simp; omega)
end Go.Proofs.Ytlcnmfgmgiijpaa
