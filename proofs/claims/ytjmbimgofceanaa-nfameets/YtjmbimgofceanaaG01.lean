/- Contracts of octets.Join, Meet and Not: by walking their bodies. -/
import Derived.Test.YtjmbimgofceanaaG00
import Derived.Deep.RegionHeld3
import Derived.Deep.DrawnRows
import Derived.Deep.DeepCutAuto
namespace Go.Proofs.Ytjmbimgofceanaa
open Go.RowKit

theorem or_words (s t : Oct.S) (i : Nat) : bits .or .u64 (Oct.word s i : Nat) (Oct.word t i : Nat) = (Oct.word (Oct.join s t) i : Nat) := by
  rw [u64_or_nat _ _ (Oct.word_lt s i) (Oct.word_lt t i), Oct.word_join]
theorem and_words (s t : Oct.S) (i : Nat) : bits .and .u64 (Oct.word s i : Nat) (Oct.word t i : Nat) = (Oct.word (Oct.meet s t) i : Nat) := by
  rw [u64_and_nat _ _ (Oct.word_lt s i) (Oct.word_lt t i), Oct.word_meet]

set_option maxHeartbeats 1000000 in
theorem join_any (a : Option Addr) (n cap : Nat) (l : List Oct.S) (w : World) (hn : n = l.length) (hl : n ≤ maxLen) (hat : SetsAt w a l) :
    Calls Try.prog 92 #[.slice a n cap] w fun e w' => e = .returned (setV (Oct.joins l)) ∧ Below w.heap.size w w' := by
  unfold maxLen at hl
  have HN : Hid (n = l.length) := hn
  have HAT : Hid (SetsAt w a l) := hat
  clear hn hat
  have H0 := start2_hid w
  go_enter Try.func92, Try.ntmps92
  go_wp2
  go_loopw [10] (fun i u => ∃ k : Nat, k ≤ n ∧ i = .int .i64 k ∧ Hid (St w u w.heap.size (w.heap.size + 1) (Oct.joins (l.take k)))) (fun i _ => n - (intOf i).toNat)
  case atStart => exact ⟨0, Nat.zero_le _, rfl, H0.out.as (fun b _ => by simp [Oct.joins, Oct.none])⟩
  case round =>
    clear H0
    obtain ⟨k, hk, rfl, hs⟩ := hrel
    obtain ⟨s, hS⟩ : ∃ s, s = Oct.joins (l.take k) := ⟨_, rfl⟩
    have HS : Hid (s = Oct.joins (l.take k)) := hS
    rw [← hS] at hs
    clear hS
    obtain ⟨⟨c0, c1, c2, c3⟩, ⟨f0, f1, f2, f3⟩, ⟨d0, d1, d2, d3⟩, ⟨g0, g1, g2, g3⟩⟩ := hs.out.facts
    by_cases hlt : k < n
    · have hkl : k < l.length := by rw [← HN.out]; exact hlt
      obtain ⟨x, hx⟩ : ∃ x, l[k]? = some x := ⟨_, List.getElem?_eq_getElem hkl⟩
      obtain ⟨g, o, rfl, h0, h1, h2, h3⟩ := setsAt_cell HAT.out hs.out.2.2 hx
      have HX : Hid (l[k]? = some x) := hx
      clear hx hkl
      have H2 : Hid (St w (wr.alloc (.cells #[.int .u64 (Oct.word x 0 : Nat), .int .u64 (Oct.word x 1 : Nat), .int .u64 (Oct.word x 2 : Nat), .int .u64 (Oct.word x 3 : Nat)] 27)) w.heap.size (w.heap.size + 1) s) := hs.out.later ((Below.refl _ _).alloc (Nat.le_refl _) _)
      go_wp2
      go_loopw [15] (fun i u => ∃ j : Nat, j ≤ 4 ∧ i = .int .i64 j ∧ Hid (St w u w.heap.size (w.heap.size + 1) (Oct.upto j (Oct.join s x) s))) (fun i _ => 4 - (intOf i).toNat)
      case atStart => exact ⟨0, Nat.zero_le _, rfl, by rw [Oct.upto_zero]; exact H2⟩
      case round =>
        obtain ⟨j, hj, rfl, hs2⟩ := hrel
        clear c0 c1 c2 c3 f0 f1 f2 f3 d0 d1 d2 d3 g0 g1 g2 g3 h0 h1 h2 h3 hs H2
        obtain ⟨⟨c0, c1, c2, c3⟩, ⟨f0, f1, f2, f3⟩, ⟨d0, d1, d2, d3⟩, ⟨g0, g1, g2, g3⟩⟩ := hs2.out.facts
        by_cases hj4 : j < 4
        · have hcases : j = 0 ∨ j = 1 ∨ j = 2 ∨ j = 3 := by omega
          clear hj4 hj
          rcases hcases with rfl | rfl | rfl | rfl
          all_goals
            have i0 := idx0
            have i1 := idx1
            have i2 := idx2
            have i3 := idx3
            go_wp2
            go_roundw
            case rel => exact ⟨_, by decide, rfl, hs2.out.set (by omega) (by omega) _ (by decide) _ (by rw [Oct.word_upto_ge _ _ _ _ (Nat.le_refl _), or_words, Oct.word_upto_lt _ _ _ _ (by decide)]) (fun i _ hne => Oct.word_upto_step _ _ i _ hne)⟩
            case measure => simp [intOf]
        · obtain rfl : j = 4 := by omega
          go_wp2
          go_roundw
          case rel => exact ⟨k + 1, by omega, by go_num, hs2.out.as (fun c hc => by rw [Oct.upto_all _ _ _ hc, HS.out]; exact Oct.joins_take_succ l k x HX.out c)⟩
          case measure => simp [intOf]; omega
    · go_wp2
      exact hs.out.ret Try.f92 2 rfl rfl rfl (Nat.le_refl _) _ (fun c _ => by rw [HS.out, List.take_of_length_le (by rw [← HN.out]; omega)])

theorem start_meet (w : World) (s t : Oct.S) : ∃ u, u = (((w.alloc (.cells #[.int .u64 (Oct.word s 0 : Nat), .int .u64 (Oct.word s 1 : Nat), .int .u64 (Oct.word s 2 : Nat), .int .u64 (Oct.word s 3 : Nat)] 27)).alloc (.cells #[.int .u64 (Oct.word t 0 : Nat), .int .u64 (Oct.word t 1 : Nat), .int .u64 (Oct.word t 2 : Nat), .int .u64 (Oct.word t 3 : Nat)] 27)).alloc (.cells #[.int .u64 0, .int .u64 0, .int .u64 0, .int .u64 0] 27)).alloc (.cells #[.int .u64 0, .int .u64 0, .int .u64 0, .int .u64 0] 27) ∧
    SB u w.heap.size s ∧ SB u (w.heap.size + 1) t ∧ St w u (w.heap.size + 2) (w.heap.size + 3) Oct.none := by
  refine ⟨_, rfl, ?_⟩
  obtain ⟨w1, h1⟩ : ∃ w1, w1 = w.alloc (.cells #[.int .u64 (Oct.word s 0 : Nat), .int .u64 (Oct.word s 1 : Nat), .int .u64 (Oct.word s 2 : Nat), .int .u64 (Oct.word s 3 : Nat)] 27) := ⟨_, rfl⟩
  have b1 : Below w.heap.size w w1 := by rw [h1]; exact (Below.refl _ _).alloc (Nat.le_refl _) _
  have z1 : w1.heap.size = w.heap.size + 1 := by rw [h1]; simp
  have a1 : SB w1 w.heap.size s := by rw [h1]; exact sb_new w s
  rw [← h1]
  clear h1
  obtain ⟨w2, h2⟩ : ∃ w2, w2 = w1.alloc (.cells #[.int .u64 (Oct.word t 0 : Nat), .int .u64 (Oct.word t 1 : Nat), .int .u64 (Oct.word t 2 : Nat), .int .u64 (Oct.word t 3 : Nat)] 27) := ⟨_, rfl⟩
  have b2 : Below w1.heap.size w1 w2 := by rw [h2]; exact (Below.refl _ _).alloc (Nat.le_refl _) _
  have z2 : w2.heap.size = w.heap.size + 2 := by rw [h2]; simp [z1]
  have a2 : SB w2 (w.heap.size + 1) t := by rw [h2, ← z1]; exact sb_new w1 t
  rw [← h2]
  clear h2
  have h3 := start2' w w2 (below_trans b1 b2 b1.size)
  rw [z2] at h3
  exact ⟨(a1.later b2).later (start2 w2).2.2, a2.later (start2 w2).2.2, h3⟩
set_option maxHeartbeats 1000000 in
theorem meet_any (s t : Oct.S) (w : World) : Calls Try.prog 94 #[setV s, setV t] w fun e w' => e = .returned (setV (Oct.meet s t)) ∧ Below w.heap.size w w' := by
  obtain ⟨u0, hu0, hA, hB, hst⟩ := start_meet w s t
  have HB0 : Hid (SB u0 (w.heap.size + 1) t) := hB
  have H0 : Hid (St w u0 (w.heap.size + 2) (w.heap.size + 3) Oct.none) := hst
  have HU : Hid (u0 = _) := hu0
  clear hA hB hst
  clear hu0
  unfold setV
  go_enter Try.func94, Try.ntmps94
  go_wp2
  rw [← HU.out]
  clear HU
  go_loopw [9] (fun i u => ∃ j : Nat, j ≤ 4 ∧ i = .int .i64 j ∧ Hid (SB u (w.heap.size + 1) t) ∧ Hid (St w u (w.heap.size + 2) (w.heap.size + 3) (Oct.upto j (Oct.meet s t) Oct.none))) (fun i _ => 4 - (intOf i).toNat)
  case atStart => exact ⟨0, Nat.zero_le _, rfl, HB0, by rw [Oct.upto_zero]; exact H0⟩
  case round =>
    clear HB0 H0
    obtain ⟨j, hj, rfl, hb, hs⟩ := hrel
    obtain ⟨⟨c0, c1, c2, c3⟩, ⟨f0, f1, f2, f3⟩, ⟨d0, d1, d2, d3⟩, ⟨g0, g1, g2, g3⟩⟩ := hs.out.facts
    obtain ⟨e0, e1, e2, e3⟩ := hb.out.cells
    by_cases hj4 : j < 4
    · have hcases : j = 0 ∨ j = 1 ∨ j = 2 ∨ j = 3 := by omega
      clear hj4 hj
      rcases hcases with rfl | rfl | rfl | rfl
      all_goals
        have i0 := idx0
        have i1 := idx1
        have i2 := idx2
        have i3 := idx3
        go_wp2
        go_roundw
        case rel => exact ⟨_, by decide, rfl, hb.out.other (by omega) _ _, hs.out.set (by omega) (by omega) _ (by decide) _ (by rw [and_words, Oct.word_upto_lt _ _ _ _ (by decide)]) (fun i _ hne => Oct.word_upto_step _ _ i _ hne)⟩
        case measure => simp [intOf]
    · obtain rfl : j = 4 := by omega
      go_wp2
      exact hs.out.ret Try.f94 4 rfl rfl rfl (by omega) _ (fun c hc => Oct.upto_all _ _ _ hc)

theorem start_not (w : World) (s : Oct.S) : ∃ u, u = ((w.alloc (.cells #[.int .u64 (Oct.word s 0 : Nat), .int .u64 (Oct.word s 1 : Nat), .int .u64 (Oct.word s 2 : Nat), .int .u64 (Oct.word s 3 : Nat)] 27)).alloc (.cells #[.int .u64 0, .int .u64 0, .int .u64 0, .int .u64 0] 27)).alloc (.cells #[.int .u64 0, .int .u64 0, .int .u64 0, .int .u64 0] 27) ∧
    SB u w.heap.size s ∧ St w u (w.heap.size + 1) (w.heap.size + 2) Oct.none := by
  refine ⟨_, rfl, ?_⟩
  obtain ⟨w1, h1⟩ : ∃ w1, w1 = w.alloc (.cells #[.int .u64 (Oct.word s 0 : Nat), .int .u64 (Oct.word s 1 : Nat), .int .u64 (Oct.word s 2 : Nat), .int .u64 (Oct.word s 3 : Nat)] 27) := ⟨_, rfl⟩
  have b1 : Below w.heap.size w w1 := by rw [h1]; exact (Below.refl _ _).alloc (Nat.le_refl _) _
  have z1 : w1.heap.size = w.heap.size + 1 := by rw [h1]; simp
  have a1 : SB w1 w.heap.size s := by rw [h1]; exact sb_new w s
  rw [← h1]
  clear h1
  have h3 := start2' w w1 b1
  rw [z1] at h3
  exact ⟨a1.later (start2 w1).2.2, h3⟩
theorem xor_word (s : Oct.S) (i : Nat) : bits .xor .u64 (if IntKind.u64.signed = true then -1 else IntKind.u64.max) (Oct.word s i : Nat) = (Oct.word (fun c => !(s c)) i : Nat) := by
  have e : (if IntKind.u64.signed = true then (-1 : Int) else IntKind.u64.max) = ((18446744073709551615 : Nat) : Int) := by simp [IntKind.signed, IntKind.max, IntKind.bits]
  rw [e, u64_xor_nat _ _ (by decide) (Oct.word_lt s i)]
  congr 1
  refine Oct.word_eq (Nat.xor_lt_two_pow (n := 64) (by decide) (Oct.word_lt s i)) (fun k hk => ?_)
  rw [Nat.testBit_xor, show (18446744073709551615 : Nat) = 2 ^ 64 - 1 from rfl, Nat.testBit_two_pow_sub_one, Oct.word_bit]
  simp [hk]
set_option maxHeartbeats 1000000 in
theorem not_any (s : Oct.S) (w : World) : Calls Try.prog 93 #[setV s] w fun e w' => e = .returned (setV (Oct.inv s)) ∧ Below w.heap.size w w' := by
  obtain ⟨u0, hu0, hA, hst⟩ := start_not w s
  have H0 : Hid (St w u0 (w.heap.size + 1) (w.heap.size + 2) Oct.none) := hst
  have HU : Hid (u0 = _) := hu0
  clear hA hst
  clear hu0
  unfold setV
  go_enter Try.func93, Try.ntmps93
  go_wp2
  rw [← HU.out]
  clear HU
  go_loopw [7] (fun i u => ∃ j : Nat, j ≤ 4 ∧ i = .int .i64 j ∧ Hid (St w u (w.heap.size + 1) (w.heap.size + 2) (Oct.upto j (fun c => !(s c)) Oct.none))) (fun i _ => 4 - (intOf i).toNat)
  case atStart => exact ⟨0, Nat.zero_le _, rfl, by rw [Oct.upto_zero]; exact H0⟩
  case round =>
    clear H0
    obtain ⟨j, hj, rfl, hs⟩ := hrel
    obtain ⟨⟨c0, c1, c2, c3⟩, ⟨f0, f1, f2, f3⟩, ⟨d0, d1, d2, d3⟩, ⟨g0, g1, g2, g3⟩⟩ := hs.out.facts
    by_cases hj4 : j < 4
    · have hcases : j = 0 ∨ j = 1 ∨ j = 2 ∨ j = 3 := by omega
      clear hj4 hj
      rcases hcases with rfl | rfl | rfl | rfl
      all_goals
        have i0 := idx0
        have i1 := idx1
        have i2 := idx2
        have i3 := idx3
        go_wp2
        go_roundw
        case rel => exact ⟨_, by decide, rfl, hs.out.set (by omega) (by omega) _ (by decide) _ (by rw [xor_word, Oct.word_upto_lt _ _ _ _ (by decide)]) (fun i _ hne => Oct.word_upto_step _ _ i _ hne)⟩
        case measure => simp [intOf]
    · obtain rfl : j = 4 := by omega
      obtain ⟨x, hx⟩ : ∃ x, x = Oct.upto 4 (fun c => !(s c)) Oct.none := ⟨_, rfl⟩
      have HX : Hid (x = Oct.upto 4 (fun c => !(s c)) Oct.none) := hx
      rw [← hx] at hs c0 c1 c2 c3
      clear hx
      go_wp2_with fail
      refine (without_any x 10 _ (by decide)).mono ?_
      rintro e w3 ⟨rfl, hb3⟩
      have HS3 : Hid (St w w3 (w.heap.size + 1) (w.heap.size + 2) x) := hs.out.later hb3
      clear hs hb3 c0 c1 c2 c3 f0 f1 f2 f3 d0 d1 d2 d3 g0 g1 g2 g3
      obtain ⟨_, _, ⟨d0, d1, d2, d3⟩, ⟨g0, g1, g2, g3⟩⟩ := HS3.out.facts
      unfold setV
      go_wp2
      have HS4 := HS3.out.put4_ret (Oct.del x 10)
      exact HS4 Try.f93 2 rfl rfl rfl (by omega) _ (fun c hc => by rw [HX.out]; simp only [Oct.del, Oct.inv]; rw [Oct.upto_all _ _ _ hc])
end Go.Proofs.Ytjmbimgofceanaa

/- The contracts of octets in the form that a region of many calls wants: arguments and answers written out, the lists of Join by their blocks. -/
namespace Go.Proofs.Ytjmbimgofceanaa
open Go.RowKit

/-- a set's words as cells -/
def cells4 (s : Oct.S) : List Value := [.int .u64 (Oct.word s 0 : Nat), .int .u64 (Oct.word s 1 : Nat), .int .u64 (Oct.word s 2 : Nat), .int .u64 (Oct.word s 3 : Nat)]
def flat (l : List Oct.S) : List Value := l.flatMap cells4
theorem flat_length (l : List Oct.S) : (flat l).length = 4 * l.length := by
  induction l with
  | nil => rfl
  | cons s r ih => simp only [flat, List.flatMap_cons, List.length_append, List.length_cons] at ih ⊢; rw [ih]; simp [cells4]; omega
theorem flat_at (l : List Oct.S) (k j : Nat) (s : Oct.S) (hk : l[k]? = some s) (hj : j < 4) : (flat l)[k * 4 + j]? = (cells4 s)[j]? := by
  induction l generalizing k with
  | nil => simp at hk
  | cons x r ih =>
    simp only [flat, List.flatMap_cons] at ih ⊢
    cases k with
    | zero =>
      simp at hk
      subst hk
      rw [List.getElem?_append_left (by simp [cells4]; omega)]
      simp
    | succ k =>
      simp at hk
      rw [List.getElem?_append_right (by simp [cells4]; omega), ← ih k hk]
      congr 1
      simp [cells4]
      omega
/-- A LIST OF SETS IN A BLOCK OF ITS OWN. -/
structure SL (w : World) (g : Nat) (l : List Oct.S) : Prop where
  block : w.heap[g]? = some (.cells (flat l).toArray 27 (0, 0))
theorem SL.at {w : World} {g : Nat} {l : List Oct.S} (h : SL w g l) : SetsAt w (some ⟨g, 0, none⟩) l := by
  refine Or.inr ⟨g, 0, rfl, fun k s hk => ?_⟩
  have h := h.block
  have h0 := flat_at l k 0 s hk (by decide)
  have h1 := flat_at l k 1 s hk (by decide)
  have h2 := flat_at l k 2 s hk (by decide)
  have h3 := flat_at l k 3 s hk (by decide)
  simp only [Nat.add_zero] at h0
  refine ⟨?_, ?_, ?_, ?_⟩ <;> simp [World.cell?, h, h0, h1, h2, h3, cells4]
theorem SL.later {w w' : World} {g : Nat} {l : List Oct.S} (h : SL w g l) (hb : Below w.heap.size w w') : SL w' g l := ⟨(hb.block g (Array.getElem?_eq_some_iff.1 h.block).1).trans h.block⟩
theorem SL.alloc {w : World} {g : Nat} {l : List Oct.S} (h : SL w g l) (o : Obj) : SL (w.alloc o) g l := h.later ((Below.refl _ _).alloc (Nat.le_refl _) _)
theorem sl2_new (w : World) (s t : Oct.S) (g : Nat) (hg : g = w.heap.size) : SL (w.alloc (.cells #[.int .u64 (Oct.word s 0 : Nat), .int .u64 (Oct.word s 1 : Nat), .int .u64 (Oct.word s 2 : Nat), .int .u64 (Oct.word s 3 : Nat), .int .u64 (Oct.word t 0 : Nat), .int .u64 (Oct.word t 1 : Nat), .int .u64 (Oct.word t 2 : Nat), .int .u64 (Oct.word t 3 : Nat)] 27)) g [s, t] := by
  subst hg
  exact ⟨heap_alloc_new w _⟩
theorem sl3_new (w : World) (s t r : Oct.S) (g : Nat) (hg : g = w.heap.size) : SL (w.alloc (.cells #[.int .u64 (Oct.word s 0 : Nat), .int .u64 (Oct.word s 1 : Nat), .int .u64 (Oct.word s 2 : Nat), .int .u64 (Oct.word s 3 : Nat), .int .u64 (Oct.word t 0 : Nat), .int .u64 (Oct.word t 1 : Nat), .int .u64 (Oct.word t 2 : Nat), .int .u64 (Oct.word t 3 : Nat), .int .u64 (Oct.word r 0 : Nat), .int .u64 (Oct.word r 1 : Nat), .int .u64 (Oct.word r 2 : Nat), .int .u64 (Oct.word r 3 : Nat)] 27)) g [s, t, r] := by
  subst hg
  exact ⟨heap_alloc_new w _⟩
theorem sl2_next (w : World) (o : Obj) (s t : Oct.S) : SL ((w.alloc o).alloc (.cells #[.int .u64 (Oct.word s 0 : Nat), .int .u64 (Oct.word s 1 : Nat), .int .u64 (Oct.word s 2 : Nat), .int .u64 (Oct.word s 3 : Nat), .int .u64 (Oct.word t 0 : Nat), .int .u64 (Oct.word t 1 : Nat), .int .u64 (Oct.word t 2 : Nat), .int .u64 (Oct.word t 3 : Nat)] 27)) (w.heap.size + 1) [s, t] := sl2_new (w.alloc o) s t _ (by simp)
theorem sl3_next (w : World) (o : Obj) (s t r : Oct.S) : SL ((w.alloc o).alloc (.cells #[.int .u64 (Oct.word s 0 : Nat), .int .u64 (Oct.word s 1 : Nat), .int .u64 (Oct.word s 2 : Nat), .int .u64 (Oct.word s 3 : Nat), .int .u64 (Oct.word t 0 : Nat), .int .u64 (Oct.word t 1 : Nat), .int .u64 (Oct.word t 2 : Nat), .int .u64 (Oct.word t 3 : Nat), .int .u64 (Oct.word r 0 : Nat), .int .u64 (Oct.word r 1 : Nat), .int .u64 (Oct.word r 2 : Nat), .int .u64 (Oct.word r 3 : Nat)] 27)) (w.heap.size + 1) [s, t, r] := sl3_new (w.alloc o) s t r _ (by simp)
/-- an answer written out -/
def Gives (w : World) (s : Oct.S) : Ending → World → Prop := fun e w' => e = .returned (.agg #[.int .u64 (Oct.word s 0 : Nat), .int .u64 (Oct.word s 1 : Nat), .int .u64 (Oct.word s 2 : Nat), .int .u64 (Oct.word s 3 : Nat)]) ∧ Below w.heap.size w w'
theorem join0_gen (w : World) : Calls Try.prog 92 #[.slice none 0 0] w fun e w' => e = .returned (.agg #[.int .u64 (Oct.word Oct.none 0 : Nat), .int .u64 (Oct.word Oct.none 1 : Nat), .int .u64 (Oct.word Oct.none 2 : Nat), .int .u64 (Oct.word Oct.none 3 : Nat)]) ∧ Below w.heap.size w w' :=
  join_any none 0 0 [] w rfl (by simp [maxLen]) (Or.inl rfl)
theorem join2_gen {w : World} {g : Nat} {s t : Oct.S} (h : SL w g [s, t]) : Calls Try.prog 92 #[.slice (some ⟨g, 0, none⟩) 2 2] w fun e w' => e = .returned (.agg #[.int .u64 (Oct.word (Oct.join s t) 0 : Nat), .int .u64 (Oct.word (Oct.join s t) 1 : Nat), .int .u64 (Oct.word (Oct.join s t) 2 : Nat), .int .u64 (Oct.word (Oct.join s t) 3 : Nat)]) ∧ Below w.heap.size w w' := by
  refine (join_any _ 2 2 [s, t] w rfl (by simp [maxLen]) h.at).mono ?_
  rintro e w' ⟨rfl, hb⟩
  exact ⟨by rw [setV_congr (s := Oct.joins [s, t]) (t := Oct.join s t) (fun b _ => by simp [Oct.joins, Oct.join])]; rfl, hb⟩
theorem join3_gen {w : World} {g : Nat} {s t r : Oct.S} (h : SL w g [s, t, r]) : Calls Try.prog 92 #[.slice (some ⟨g, 0, none⟩) 3 3] w fun e w' => e = .returned (.agg #[.int .u64 (Oct.word (Oct.join s (Oct.join t r)) 0 : Nat), .int .u64 (Oct.word (Oct.join s (Oct.join t r)) 1 : Nat), .int .u64 (Oct.word (Oct.join s (Oct.join t r)) 2 : Nat), .int .u64 (Oct.word (Oct.join s (Oct.join t r)) 3 : Nat)]) ∧ Below w.heap.size w w' := by
  refine (join_any _ 3 3 [s, t, r] w rfl (by simp [maxLen]) h.at).mono ?_
  rintro e w' ⟨rfl, hb⟩
  exact ⟨by rw [setV_congr (s := Oct.joins [s, t, r]) (t := Oct.join s (Oct.join t r)) (fun b _ => by simp [Oct.joins, Oct.join])]; rfl, hb⟩
theorem meet_gen (s t : Oct.S) (w : World) : Calls Try.prog 94 #[.agg #[.int .u64 (Oct.word s 0 : Nat), .int .u64 (Oct.word s 1 : Nat), .int .u64 (Oct.word s 2 : Nat), .int .u64 (Oct.word s 3 : Nat)], .agg #[.int .u64 (Oct.word t 0 : Nat), .int .u64 (Oct.word t 1 : Nat), .int .u64 (Oct.word t 2 : Nat), .int .u64 (Oct.word t 3 : Nat)]] w fun e w' => e = .returned (.agg #[.int .u64 (Oct.word (Oct.meet s t) 0 : Nat), .int .u64 (Oct.word (Oct.meet s t) 1 : Nat), .int .u64 (Oct.word (Oct.meet s t) 2 : Nat), .int .u64 (Oct.word (Oct.meet s t) 3 : Nat)]) ∧ Below w.heap.size w w' := meet_any s t w
theorem not_gen (s : Oct.S) (w : World) : Calls Try.prog 93 #[.agg #[.int .u64 (Oct.word s 0 : Nat), .int .u64 (Oct.word s 1 : Nat), .int .u64 (Oct.word s 2 : Nat), .int .u64 (Oct.word s 3 : Nat)]] w fun e w' => e = .returned (.agg #[.int .u64 (Oct.word (Oct.inv s) 0 : Nat), .int .u64 (Oct.word (Oct.inv s) 1 : Nat), .int .u64 (Oct.word (Oct.inv s) 2 : Nat), .int .u64 (Oct.word (Oct.inv s) 3 : Nat)]) ∧ Below w.heap.size w w' := not_any s w
theorem has_gen (s : Oct.S) (b : Nat) (w : World) (hb : b < 256) : Calls Try.prog 73 #[.agg #[.int .u64 (Oct.word s 0 : Nat), .int .u64 (Oct.word s 1 : Nat), .int .u64 (Oct.word s 2 : Nat), .int .u64 (Oct.word s 3 : Nat)], .int .u8 b] w fun e w' => e = .returned (.bool (s b)) ∧ Below w.heap.size w w' := has_any s b w hb
/-- a set's block in all later worlds -/
theorem SB.held {w : World} {A : Nat} {s : Oct.S} (h : SB w A s) : ∀ u, Below w.heap.size w u → u.cell? ⟨A, 0, none⟩ = some (.int .u64 (Oct.word s 0 : Nat)) ∧ u.cell? ⟨A, 1, none⟩ = some (.int .u64 (Oct.word s 1 : Nat)) ∧ u.cell? ⟨A, 2, none⟩ = some (.int .u64 (Oct.word s 2 : Nat)) ∧ u.cell? ⟨A, 3, none⟩ = some (.int .u64 (Oct.word s 3 : Nat)) :=
  fun _ hu => (h.later hu).cells
end Go.Proofs.Ytjmbimgofceanaa

/- Contracts of octets.marks and octets.Class: by walking their bodies, name by name. -/
namespace Go.Proofs.Ytjmbimgofceanaa
open Go.RowKit
attribute [local go_sem ↓] Go.wp_at_zero Go.wp_at_succ

theorem sl4_new (w : World) (s t r q : Oct.S) (g : Nat) (hg : g = w.heap.size) : SL (w.alloc (.cells #[.int .u64 (Oct.word s 0 : Nat), .int .u64 (Oct.word s 1 : Nat), .int .u64 (Oct.word s 2 : Nat), .int .u64 (Oct.word s 3 : Nat), .int .u64 (Oct.word t 0 : Nat), .int .u64 (Oct.word t 1 : Nat), .int .u64 (Oct.word t 2 : Nat), .int .u64 (Oct.word t 3 : Nat), .int .u64 (Oct.word r 0 : Nat), .int .u64 (Oct.word r 1 : Nat), .int .u64 (Oct.word r 2 : Nat), .int .u64 (Oct.word r 3 : Nat), .int .u64 (Oct.word q 0 : Nat), .int .u64 (Oct.word q 1 : Nat), .int .u64 (Oct.word q 2 : Nat), .int .u64 (Oct.word q 3 : Nat)] 27)) g [s, t, r, q] := by
  subst hg
  exact ⟨heap_alloc_new w _⟩
theorem span_gen (f t : Nat) (w : World) (hf : f < 256) (ht : t < 256) : Calls Try.prog 104 #[.int .u8 f, .int .u8 t] w fun e w' => e = .returned (.agg #[.int .u64 (Oct.word (Oct.span f t) 0 : Nat), .int .u64 (Oct.word (Oct.span f t) 1 : Nat), .int .u64 (Oct.word (Oct.span f t) 2 : Nat), .int .u64 (Oct.word (Oct.span f t) 3 : Nat)]) ∧ Below w.heap.size w w' := span_any f t w hf ht
theorem join4_gen {w : World} {g : Nat} {s t r q x : Oct.S} (h : SL w g [s, t, r, q]) (hx : ∀ b, b < 256 → Oct.joins [s, t, r, q] b = x b) : Calls Try.prog 92 #[.slice (some ⟨g, 0, none⟩) 4 4] w fun e w' => e = .returned (.agg #[.int .u64 (Oct.word x 0 : Nat), .int .u64 (Oct.word x 1 : Nat), .int .u64 (Oct.word x 2 : Nat), .int .u64 (Oct.word x 3 : Nat)]) ∧ Below w.heap.size w w' := by
  refine (join_any _ 4 4 [s, t, r, q] w rfl (by simp [maxLen]) h.at).mono ?_
  rintro e w' ⟨rfl, hb⟩
  exact ⟨by rw [setV_congr hx]; rfl, hb⟩

/-! ### the classes -/
def upper : Oct.S := Oct.span 65 90
def lower : Oct.S := Oct.span 97 122
def digit : Oct.S := Oct.span 48 57
def graph : Oct.S := Oct.span 33 126
def print : Oct.S := Oct.span 32 126
def alpha : Oct.S := fun c => upper c || lower c
def alnum : Oct.S := fun c => upper c || lower c || digit c
def xdigit : Oct.S := fun c => digit c || Oct.span 65 70 c || Oct.span 97 102 c
def blank : Oct.S := fun c => c == 9 || c == 32
def space : Oct.S := fun c => Oct.span 9 13 c || c == 32
def cntrl : Oct.S := fun c => decide (c < 32) || c == 127
def punct : Oct.S := fun c => graph c && !(upper c) && !(lower c) && !(digit c)

set_option maxHeartbeats 1000000 in
theorem marks_any (w : World) : Calls Try.prog 106 #[] w fun e w' => e = .returned (.agg #[.int .u64 (Oct.word punct 0 : Nat), .int .u64 (Oct.word punct 1 : Nat), .int .u64 (Oct.word punct 2 : Nat), .int .u64 (Oct.word punct 3 : Nat)]) ∧ Below w.heap.size w w' := by
  have H0 : Hid (SB (w.alloc (.cells #[.int .u64 0, .int .u64 0, .int .u64 0, .int .u64 0] 27)) w.heap.size Oct.none) := sb_zero w
  have HB : Hid (Below w.heap.size w (w.alloc (.cells #[.int .u64 0, .int .u64 0, .int .u64 0, .int .u64 0] 27))) := (Below.refl _ _).alloc (Nat.le_refl _) _
  go_enter Try.func106, Try.ntmps106
  go_wp2_with fail
  refine (span_gen 33 47 _ (by decide) (by decide)).mono ?_
  rintro e w1 ⟨rfl, k1⟩
  have H1 : Hid (SB w1 w.heap.size Oct.none) := H0.out.later k1
  have B1 : Hid (Below w.heap.size w w1) := below_trans HB.out k1 HB.out.size
  clear k1 H0 HB
  go_wp2_with fail
  refine (span_gen 58 64 _ (by decide) (by decide)).mono ?_
  rintro e w2 ⟨rfl, k2⟩
  have H2 : Hid (SB w2 w.heap.size Oct.none) := H1.out.later k2
  have B2 : Hid (Below w.heap.size w w2) := below_trans B1.out k2 B1.out.size
  clear k2 H1 B1
  go_wp2_with fail
  refine (span_gen 91 96 _ (by decide) (by decide)).mono ?_
  rintro e w3 ⟨rfl, k3⟩
  have H3 : Hid (SB w3 w.heap.size Oct.none) := H2.out.later k3
  have B3 : Hid (Below w.heap.size w w3) := below_trans B2.out k3 B2.out.size
  clear k3 H2 B2
  go_wp2_with fail
  refine (span_gen 123 126 _ (by decide) (by decide)).mono ?_
  rintro e w4 ⟨rfl, k4⟩
  have H4 : Hid (SB w4 w.heap.size Oct.none) := H3.out.later k4
  have B4 : Hid (Below w.heap.size w w4) := below_trans B3.out k4 B3.out.size
  clear k4 H3 B3
  go_wp2_with fail
  refine (join4_gen (x := punct) (sl4_new w4 _ _ _ _ _ rfl) ?hx).mono ?_
  case hx =>
    intro b _
    rw [Bool.eq_iff_iff]
    simp [Oct.joins, Oct.span, punct, graph, upper, lower, digit]
    omega
  rintro e w5 ⟨rfl, k5⟩
  have H5 : Hid (SB w5 w.heap.size Oct.none) := (H4.out.later ((Below.refl _ _).alloc (Nat.le_refl _) _)).later k5
  have B5 : Hid (Below w.heap.size w w5) := below_trans (B4.out.alloc B4.out.size _) k5 (by have := B4.out.size; simp; omega)
  clear k5 H4 B4
  obtain ⟨c0, c1, c2, c3⟩ := H5.out.cells
  have f0 := H5.out.frozen 0
  have f1 := H5.out.frozen 1
  have f2 := H5.out.frozen 2
  have f3 := H5.out.frozen 3
  go_wp2
  exact post_set Try.f106 0 rfl rfl rfl (H5.out.put4 punct) ⟨rfl, below_put4 B5.out (Nat.le_refl _) punct⟩

/-! ### the names -/
theorem post_set2 (f : Func) (hf : f.results = #[.cell 2 27, .tmp 3]) {Q : Ending → World → Prop} {a : Act} {w : World} {R : Nat} {s : Oct.S} {x : Value} (hd : a.defers = []) (ha : a.tmps[2]?.getD undef = .pointer (some ⟨R, 0, none⟩)) (hx : a.tmps[3]?.getD undef = x) (hR : SB w R s) (hQ : Q (.returned (.tuple #[setV s, x])) w) : bodyPost Try.prog f Q .ret a w := by
  obtain ⟨c0, c1, c2, c3⟩ := hR.cells
  exact bodyPost_ret (by simp only [results, hf]; simp [ha, hx, go_sem, c0, c1, c2, c3, setV]) hd hQ
theorem St.ret2 {w u : World} {R V : Nat} {s : Oct.S} (h : St w u R V s) (f : Func) (hf : f.results = #[.cell 2 27, .tmp 3]) {a : Act} {x : Value} (hd : a.defers = []) (ha : a.tmps[2]?.getD undef = .pointer (some ⟨R, 0, none⟩)) (hx : a.tmps[3]?.getD undef = x) (hR : w.heap.size ≤ R) (q t : Oct.S) (e : ∀ b, b < 256 → q b = t b) :
    bodyPost Try.prog f (fun e w' => e = .returned (.tuple #[setV t, x]) ∧ Below w.heap.size w w') .ret a (put4 u R q) :=
  post_set2 f hf hd ha hx (h.1.put4 q) ⟨by rw [setV_congr e], below_put4 h.2.2 hR q⟩
theorem wp_cut4 {c : Code} {Q : Exit → Act → World → Prop} {a : Act} {w : World} (d0 d1 d2 d3 : Nat) (J : World → Prop)
    (h1 : c.wp Try.prog (fun x a' w' => x = .normal ∧ (∃ v0 v1 v2 v3, a' = (((a.put (some d0) v0).put (some d1) v1).put (some d2) v2).put (some d3) v3) ∧ J w') a w)
    (h2 : ∀ v0 v1 v2 v3 w', J w' → ∀ a', a' = (((a.put (some d0) v0).put (some d1) v1).put (some d2) v2).put (some d3) v3 → Q .normal a' w') : c.wp Try.prog Q a w :=
  Code.wp_mono (fun e a' w' h => by obtain ⟨rfl, ⟨v0, v1, v2, v3, rfl⟩, hJ⟩ := h; exact h2 v0 v1 v2 v3 w' hJ _ rfl) h1
theorem wp_cut5 {c : Code} {Q : Exit → Act → World → Prop} {a : Act} {w : World} (d0 d1 d2 d3 d4 : Nat) (J : World → Prop)
    (h1 : c.wp Try.prog (fun x a' w' => x = .normal ∧ (∃ v0 v1 v2 v3 v4, a' = ((((a.put (some d0) v0).put (some d1) v1).put (some d2) v2).put (some d3) v3).put (some d4) v4) ∧ J w') a w)
    (h2 : ∀ v0 v1 v2 v3 v4 w', J w' → ∀ a', a' = ((((a.put (some d0) v0).put (some d1) v1).put (some d2) v2).put (some d3) v3).put (some d4) v4 → Q .normal a' w') : c.wp Try.prog Q a w :=
  Code.wp_mono (fun e a' w' h => by obtain ⟨rfl, ⟨v0, v1, v2, v3, v4, rfl⟩, hJ⟩ := h; exact h2 v0 v1 v2 v3 v4 w' hJ _ rfl) h1
theorem of_gen {w : World} {a : Option Addr} (bs : List Nat) (n : Nat) (hn : n = bs.length) (hl : n ≤ 100) (h : BytesAt w a bs) (hb : ∀ b ∈ bs, b < 256) : Calls Try.prog 89 #[.slice a n n] w fun e w' => e = .returned (.agg #[.int .u64 (Oct.word (Oct.has bs) 0 : Nat), .int .u64 (Oct.word (Oct.has bs) 1 : Nat), .int .u64 (Oct.word (Oct.has bs) 2 : Nat), .int .u64 (Oct.word (Oct.has bs) 3 : Nat)]) ∧ Below w.heap.size w w' :=
  of_any a n n bs w hn (by simp [maxLen]; omega) h hb
end Go.Proofs.Ytjmbimgofceanaa

/- A region that draws its order, whose callees make memory but turn none of what was there: one walk in the order of the text serves every order. -/
namespace Go.Proofs.Ytjmbimgofceanaa
open Go.RowKit

/-- a world in which all that w had stands as it stood -/
structure Later (w : World) where
  at_ : World
  below : Below w.heap.size w at_

theorem wp_region_later {P : Program} {id : Nat} {Q : Exit → Act → World → Prop} {a : Act} {w : World} {l : List Oper} (hm : P.follows .mixedOrders = true) (hB : Region.lexB .any l.toArray = true)
    (h : wpQuiet P l.toArray (fun w' => ∃ u : Later w, w' = u.at_) (fun a' => ∀ w', (∃ u : Later w, w' = u.at_) → Q .normal a' w') l a) : (Code.region id l.toArray true).wp P Q a w :=
  wp_region_quiet (C := fun w' => ∃ u : Later w, w' = u.at_) hm hB ⟨⟨w.drew, (Below.refl _ _).drew⟩, rfl⟩ (by simpa using h)
theorem calls_later {P : Program} {f : FuncId} {args : Array Value} {w : World} {u : Later w} {v : Value} (h : Calls P f args u.at_ fun e w' => e = .returned v ∧ Below u.at_.heap.size u.at_ w') :
    Calls P f args u.at_ fun e w'' => e = .returned v ∧ ∃ m : Later w, w'' = m.at_ :=
  h.mono fun _ w' ⟨he, hb⟩ => ⟨he, ⟨w', below_trans u.below hb u.below.size⟩, rfl⟩
theorem calls_later_same {P : Program} {f : FuncId} {args : Array Value} {w : World} {u : Later w} {v : Value} (h : Calls P f args u.at_ fun e w' => e = .returned v ∧ w' = u.at_) :
    Calls P f args u.at_ fun e w'' => e = .returned v ∧ ∃ m : Later w, w'' = m.at_ :=
  h.mono fun _ _ ⟨he, hb⟩ => ⟨he, u, hb⟩
end Go.Proofs.Ytjmbimgofceanaa
