
import Derived.Test.YtmjnobdlgbojoaaGreatDoorG00
import Derived.Test.YtmjnobdlgbojoaaGreatDoorG20
import Derived.RangeFuncNested
import Derived.RangeFuncBound
import Derived.RangeFuncCalls
import Derived.RangeFuncLeaves
import Derived.RangeFuncBox
import Derived.Shelf.Abstract
import Derived.Shelf.RegionOpen
import Derived.OwnWalkIn
import Derived.TacticsInMore
import Derived.LoopNIn
import Derived.LoopIn
import Derived.Maps.AppendAt
namespace Oct
structure Low (x k : Nat) : Prop where
  on : x.testBit k = true
  off : ∀ j, j < k → x.testBit j = false
theorem low_ex {x : Nat} (h : x ≠ 0) : ∃ k, Low x k := by
  have h2 : ∃ k, x.testBit k = true := by
    refine Classical.byContradiction fun hn => h ?_
    apply Nat.eq_of_testBit_eq
    intro i
    simp only [Nat.zero_testBit]
    cases hb : x.testBit i with
    | false => rfl
    | true => exact absurd ⟨i, hb⟩ hn
  obtain ⟨k, hk⟩ := h2
  induction k using Nat.strongRecOn with
  | _ k ih =>
    by_cases hl : ∃ j, j < k ∧ x.testBit j = true
    · obtain ⟨j, hj, hb⟩ := hl
      exact ih j hj hb
    · refine ⟨k, hk, fun j hj => ?_⟩
      cases hb : x.testBit j with
      | false => rfl
      | true => exact absurd ⟨j, hj, hb⟩ hl
theorem Low.lt {x k : Nat} (h : Low x k) (hx : x < 18446744073709551616) : k < 64 := by
  refine Classical.byContradiction fun hn => ?_
  have := h.on
  rw [bits_above hx (by omega)] at this
  cases this
theorem Low.pos {x k : Nat} (h : Low x k) : x ≠ 0 := by
  intro e
  have := h.on
  rw [e] at this
  simp at this
theorem Low.pred {x k : Nat} (h : Low x k) (i : Nat) : (x - 1).testBit i = if i < k then true else if i = k then false else x.testBit i := by
  have e1 : x = 2 ^ (k + 1) * (x / 2 ^ (k + 1)) + 2 ^ k := by
    apply Nat.eq_of_testBit_eq
    intro j
    have hp : 2 ^ k < 2 ^ (k + 1) := Nat.pow_lt_pow_right (by decide) (Nat.lt_succ_self k)
    rw [Nat.testBit_two_pow_mul_add _ hp]
    by_cases hj : j < k + 1
    · rw [if_pos hj, Nat.testBit_two_pow]
      by_cases e : k = j
      · subst e; simp [h.on]
      · rw [h.off j (by omega)]; simp [e]
    · rw [if_neg hj, Nat.testBit_div_two_pow, Nat.sub_add_cancel (by omega)]
  have hp : 0 < 2 ^ k := Nat.pow_pos (by decide)
  have e2 : x - 1 = 2 ^ (k + 1) * (x / 2 ^ (k + 1)) + (2 ^ k - 1) := by omega
  have hp2 : 2 ^ k - 1 < 2 ^ (k + 1) := by rw [Nat.pow_succ]; omega
  rw [e2, Nat.testBit_two_pow_mul_add _ hp2]
  by_cases hj : i < k + 1
  · rw [if_pos hj, Nat.testBit_two_pow_sub_one]
    by_cases e : i < k
    · simp [e]
    · have : i = k := by omega
      simp [this]
  · rw [if_neg hj, if_neg (by omega), if_neg (by omega), Nat.testBit_div_two_pow, Nat.sub_add_cancel (by omega)]
theorem Low.neg {x k : Nat} (h : Low x k) (hx : x < 18446744073709551616) : x &&& (18446744073709551616 - x) = 2 ^ k := by
  have h0 := h.pos
  apply Nat.eq_of_testBit_eq
  intro i
  have h64 : (18446744073709551616 : Nat) = 2 ^ 64 := by decide
  have e : 18446744073709551616 - x = 2 ^ 64 - ((x - 1) + 1) := by omega
  have h1 : x - 1 < 2 ^ 64 := by omega
  rw [Nat.testBit_and, e, Nat.testBit_two_pow_sub_succ h1, h.pred, Nat.testBit_two_pow]
  by_cases h1 : i < k
  · rw [h.off i h1]; simp; omega
  · rw [if_neg h1]
    by_cases h2 : i = k
    · subst h2
      have := h.lt hx
      rw [if_pos rfl, h.on]; simp [this]
    · rw [if_neg h2]
      have h3 : ¬ k = i := fun e => h2 e.symm
      cases x.testBit i <;> simp [h3]
theorem Low.drop {x k : Nat} (h : Low x k) (i : Nat) : (x &&& (x - 1)).testBit i = (x.testBit i && !decide (i = k)) := by
  rw [Nat.testBit_and, h.pred]
  by_cases h1 : i < k
  · rw [h.off i h1]; simp
  · rw [if_neg h1]
    by_cases h2 : i = k
    · subst h2; simp
    · simp [h2]
def from_ (s : S) (i p : Nat) : Nat := word (fun c => s c && decide (64 * i + p ≤ c)) i
theorem from_bit (s : S) (i p k : Nat) : (from_ s i p).testBit k = (decide (k < 64) && (s (64 * i + k) && decide (p ≤ k))) := by
  unfold from_
  rw [word_bit]
  have : (64 * i + p ≤ 64 * i + k) ↔ p ≤ k := by omega
  simp [this]
theorem from_zero (s : S) (i : Nat) : from_ s i 0 = word s i := by
  unfold from_
  refine word_congr (fun k _ => ?_)
  simp
theorem from_lt (s : S) (i p : Nat) : from_ s i p < 18446744073709551616 := word_lt _ _
theorem from_step {s : S} {i p k : Nat} (h : Low (from_ s i p) k) : from_ s i p &&& (from_ s i p - 1) = from_ s i (k + 1) := by
  apply Nat.eq_of_testBit_eq
  intro j
  rw [h.drop, from_bit, from_bit]
  by_cases h1 : j < k
  · have h2 := h.off j h1
    rw [from_bit] at h2
    rw [h2]
    have : ¬ k + 1 ≤ j := by omega
    simp [this]
  · have hk := h.on
    rw [from_bit] at hk
    simp only [Bool.and_eq_true, decide_eq_true_eq] at hk
    by_cases h2 : j = k
    · subst h2; simp
    · have h3 : p ≤ j := by omega
      have h4 : k + 1 ≤ j := by omega
      simp [h2, h3, h4]
def els (s : S) (n : Nat) : List Nat := (List.range n).filter s
theorem els_succ (s : S) (n : Nat) : els s (n + 1) = els s n ++ (if s n then [n] else []) := by
  unfold els
  rw [List.range_succ, List.filter_append]
  congr 1
  cases h : s n <;> simp [h]
theorem els_skip {s : S} {a b : Nat} (hab : a ≤ b) (h : ∀ j, a ≤ j → j < b → s j = false) : els s b = els s a := by
  induction b with
  | zero => have : a = 0 := by omega
            rw [this]
  | succ b ih =>
    by_cases e : a = b + 1
    · rw [e]
    · rw [els_succ, h b (by omega) (by omega), ih (by omega) (fun j h1 h2 => h j h1 (by omega))]
      simp
theorem els_on {s : S} {k : Nat} (h : s k = true) : els s (k + 1) = els s k ++ [k] := by
  rw [els_succ, h]; rfl
theorem els_low {s : S} {i p k : Nat} (hp : p ≤ 64) (h : Low (from_ s i p) k) : k < 64 ∧ p ≤ k ∧ s (64 * i + k) = true ∧ els s (64 * i + k) = els s (64 * i + p) := by
  have hk := h.on
  rw [from_bit] at hk
  simp only [Bool.and_eq_true, decide_eq_true_eq] at hk
  refine ⟨hk.1, hk.2.2, hk.2.1, els_skip (by omega) (fun j h1 h2 => ?_)⟩
  have := h.off (j - 64 * i) (by omega)
  rw [from_bit] at this
  have e : 64 * i + (j - 64 * i) = j := by omega
  have e2 : j - 64 * i < 64 := by omega
  have e3 : p ≤ j - 64 * i := by omega
  rw [e] at this
  simpa [e2, e3] using this
theorem els_none {s : S} {i p : Nat} (hp : p ≤ 64) (h : from_ s i p = 0) : els s (64 * (i + 1)) = els s (64 * i + p) := by
  refine els_skip (by omega) (fun j h1 h2 => ?_)
  have : (from_ s i p).testBit (j - 64 * i) = false := by rw [h]; simp
  rw [from_bit] at this
  have e : 64 * i + (j - 64 * i) = j := by omega
  have e2 : j - 64 * i < 64 := by omega
  have e3 : p ≤ j - 64 * i := by omega
  rw [e] at this
  simpa [e2, e3] using this
theorem mem_els {s : S} {n x : Nat} : x ∈ els s n ↔ x < n ∧ s x = true := by unfold els; simp
theorem els_length (s : S) (n : Nat) : (els s n).length ≤ n := by
  unfold els
  exact Nat.le_trans (List.length_filter_le _ _) (by simp)
theorem els_mono {s : S} {a b : Nat} (h : a ≤ b) : (els s a).length ≤ (els s b).length := by
  induction b with
  | zero => have : a = 0 := by omega
            rw [this]; exact Nat.le_refl _
  | succ b ih =>
    by_cases e : a = b + 1
    · rw [e]; exact Nat.le_refl _
    · have := ih (by omega)
      rw [els_succ, List.length_append]
      omega
theorem els_sorted (s : S) (n : Nat) : (els s n).Pairwise (· < ·) := by
  unfold els
  exact List.Pairwise.filter _ List.pairwise_lt_range
def bru (k : Nat) : Nat := (2 ^ k * 285870213051353865 % 18446744073709551616) / 288230376151711744
def tab : List Nat := [0, 1, 56, 2, 57, 49, 28, 3, 61, 58, 42, 50, 38, 29, 17, 4, 62, 47, 59, 36, 45, 43, 51, 22, 53, 39, 33, 30, 24, 18, 12, 5, 63, 55, 48, 27, 60, 41, 37, 16, 46, 35, 44, 21, 52, 32, 23, 11, 54, 26, 40, 15, 34, 20, 31, 10, 25, 14, 19, 9, 13, 8, 7, 6]
theorem tab_all : ∀ k, k < 64 → tab[bru k]? = some k := by decide +kernel
theorem bru_lt (k : Nat) : bru k < 64 := by unfold bru; omega
end Oct


namespace Go.Proofs.YtmjnobdlgbojoaaGreatDoor
open Go.RowKit
attribute [local go_sem ↓] Go.wp_at_zero Go.wp_at_succ
def Tab (w : World) : Prop := ∀ i k : Nat, Oct.tab[i]? = some k → w.cell? ⟨0, i, none⟩ = some (.int .u8 (k : Nat))
theorem Tab.keep {w w' : World} (h : Tab w) (e : w'.heap[0]? = w.heap[0]?) : Tab w' := fun i k hk => (World.cell?_of_block (a := ⟨0, i, none⟩) e).trans (h i k hk)
theorem Tab.pos {w : World} (h : Tab w) : 0 < w.heap.size := World.block_lt_of_cell? w _ (h 0 0 rfl)
theorem Tab.later {w w' : World} (h : Tab w) (hb : Below w.heap.size w w') : Tab w' := h.keep (hb.block 0 h.pos)
theorem Tab.low {w w' : World} (h : Tab w) {b : Nat} (hb : Below b w w') (h0 : 0 < b) : Tab w' := h.keep (hb.block 0 h0)
def gws (g : Oct.S) (n : Nat) : List Value := (List.range n).map fun i => Value.int .u64 (Oct.word g i : Nat)
theorem gws_length (g : Oct.S) (n : Nat) : (gws g n).length = n := by simp [gws]
theorem gws_at (g : Oct.S) {n i : Nat} (h : i < n) : (gws g n)[i]? = some (.int .u64 (Oct.word g i : Nat)) := by simp [gws, h]
def RowG (w : World) (base b n c : Nat) (g : Oct.S) : Prop := w.ownsRow base 26 1 (.slice (some ⟨b, 0, none⟩) n c) n (gws g n)
theorem infoG : (Tryz.prog.info? 26).map (fun i => (i.zero, i.size, i.bytes)) = some (some (.int .u64 0), 1, 8) := by kernel_rfl
section
variable {w w' : World} {base b n c : Nat} {g : Oct.S}
theorem RowG.lt (h : RowG w base b n c g) : b < w.heap.size ∧ base ≤ b ∧ n ≤ c ∧ c ≤ maxLen := by
  rcases h.2 with ⟨hv, _⟩ | ⟨g', cap, cur, hv, hbg, hg, h1, h2, _⟩
  · cases hv
  · cases hv
    exact ⟨(Array.getElem?_eq_some_iff.1 hg).1, hbg, h1, h2⟩
theorem RowG.ty (h : RowG w base b n c g) : TyB w 26 b := by
  rcases h.2 with ⟨hv, _⟩ | ⟨g', cap, cur, hv, hbg, hg, _⟩
  · cases hv
  · cases hv
    exact ⟨_, _, hg⟩
theorem RowG.same (h : RowG w base b n c g) (e : w'.heap[b]? = w.heap[b]?) : RowG w' base b n c g := by
  refine ⟨h.1, ?_⟩
  rcases h.2 with ⟨hv, _⟩ | ⟨g', cap, cur, hv, hbg, hg, rest⟩
  · cases hv
  · cases hv
    exact Or.inr ⟨b, c, cur, rfl, hbg, e.trans hg, rest⟩
theorem RowG.later (h : RowG w base b n c g) (hb : Below w.heap.size w w') : RowG w' base b n c g := h.same (hb.block b h.lt.1)
theorem RowG.upon (h : RowG w base b n c g) {base' : Nat} (hb : base' ≤ b) : RowG w base' b n c g := by
  refine ⟨h.1, ?_⟩
  rcases h.2 with ⟨hv, _⟩ | ⟨g', cap, cur, hv, hbg, rest⟩
  · cases hv
  · cases hv
    exact Or.inr ⟨b, c, cur, rfl, hb, rest⟩
theorem RowG.cell (h : RowG w base b n c g) {i : Nat} (hi : i < n) : w.cell? ⟨b, i, none⟩ = some (.int .u64 (Oct.word g i : Nat)) ∧ w.frozen? ⟨b, i, none⟩ = false := by
  rcases h.2 with ⟨hv, _⟩ | ⟨g', cap, cur, hv, hbg, hg, h1, h2, h3, h4⟩
  · cases hv
  · cases hv
    have e := gws_at g hi
    rw [← h4, List.getElem?_take_of_lt (by omega)] at e
    refine ⟨?_, by simp [World.frozen?, hg]⟩
    simp only [World.cell?, hg]
    simpa using e
theorem RowG.put (h : RowG w base b n c g) {i : Nat} {g2 : Oct.S} (hs : ∀ j, j < n → j ≠ i → Oct.word g j = Oct.word g2 j) : RowG (w.setCell ⟨b, i, none⟩ (.int .u64 (Oct.word g2 i : Nat))) base b n c g2 := by
  refine ⟨by simp [gws], ?_⟩
  rcases h.2 with ⟨hv, _⟩ | ⟨g', cap, cur, hv, hbg, hg, h1, h2, h3, h4⟩
  · cases hv
  · cases hv
    refine Or.inr ⟨b, c, _, rfl, hbg, heap_set hg i _, h1, h2, by simpa using h3, ?_⟩
    rw [Array.toList_setIfInBounds, List.take_set, h4]
    apply List.ext_getElem?
    intro j
    by_cases hj : j < n
    · rw [gws_at g2 hj, List.getElem?_set]
      by_cases e : i = j
      · subst e; simp [gws_length, hj]
      · rw [if_neg e, gws_at g hj, hs j hj (fun h => e h.symm)]
    · rw [List.getElem?_eq_none (by simp [gws_length]; omega), List.getElem?_eq_none (by simp [gws_length]; omega)]
end
theorem madeCells_u64 (n : Nat) : (madeCells (Value.int .u64 0).cells (n * 1)).toList = gws Oct.none n := by
  have e : ∀ k, ((Oct.word Oct.none k : Nat) : Int) = 0 := fun k => word0 k
  apply List.ext_getElem?
  intro k
  simp only [gws, e]
  simp [madeCells, Value.cells]
  by_cases hk : k < n
  · simp [hk, Nat.mod_one]
  · simp [hk]
theorem newRow_any (S : Nat) (w : World) (hS : S ≤ 140737488355328) : Calls Tryz.prog 30 #[.int .i64 (S : Nat)] w fun e w' => e = .returned (.slice (some ⟨w.heap.size, 0, none⟩) ((S + 63) / 64) ((S + 63) / 64)) ∧ RowG w' w.heap.size w.heap.size ((S + 63) / 64) ((S + 63) / 64) Oct.none ∧ Below w.heap.size w w' := by
  obtain ⟨i0, hi, hz0, hz1, hz2⟩ := info_parts infoG
  obtain ⟨n, hn⟩ : ∃ n, n = (S + 63) / 64 := ⟨_, rfl⟩
  have hq : ((S : Int) + 64 - 1) / 64 = (n : Nat) := by rw [hn]; omega
  have hn2 : n ≤ 2513169434900 := by omega
  rw [← hn]
  have HQ : Hid (((S : Int) + 64 - 1) / 64 = (n : Nat)) := hq
  clear hn
  go_enter Tryz.func30, Tryz.ntmps30
  go_wp2_with (at_make; refine wpList_make_full (P := Tryz.prog) w rfl _ _ 74 rfl w.heap.size 26 i0 (.int .u64 0) 1 Tryz.underlying74 hi hz0 hz1 .i64 .i64 (n : Nat) (n : Nat) n (by first | rfl | exact congrArg (Value.int .i64) HQ.out) (by first | rfl | exact congrArg (Value.int .i64) HQ.out) rfl rfl (by rw [hz2]; omega) (by simp only [maxLen]; omega) (Nat.le_refl _) ?_; intro w' h1 h2; rw [madeCells_u64] at h1; have HR : Hid (RowG w' w.heap.size w.heap.size n n Oct.none) := h1; have HB : Hid (Below w.heap.size w w') := (Below.refl _ _).grown h2 (Nat.le_refl _) (fun k hk => by cases hk); clear h1 h2)
  go_ret
  exact ⟨rfl, HR.out, HB.out⟩
set_option maxHeartbeats 1000000 in
theorem hasRow_any (base b n c s : Nat) (g : Oct.S) (w : World) (h : RowG w base b n c g) (hs : s < 64 * n) (hn : n ≤ 2513169434900) : Calls Tryz.prog 60 #[.slice (some ⟨b, 0, none⟩) n c, .int .i64 (s : Nat)] w fun e w' => e = .returned (.bool (g s)) ∧ w' = w := by
  obtain ⟨q, hq⟩ : ∃ q, s / 64 = q := ⟨_, rfl⟩
  have hqi : (s : Int) / 64 = (q : Nat) := by omega
  have hqn : q < n := by omega
  have hq0 : (q : Int) < (n : Int) := by omega
  have c0 := (h.cell hqn).1
  have HB : Hid ((bits .and .u64 ((Oct.word g q : Nat) / 2 ^ (s % 64)) 1 == 1) = g s) := has_bit g s q hq
  clear h hq
  go_enter Tryz.func60, Tryz.ntmps60
  go_wp2
  go_ret
  exact ⟨ret_bool HB.out, rfl⟩
end Go.Proofs.YtmjnobdlgbojoaaGreatDoor


namespace Go.Proofs.YtmjnobdlgbojoaaGreatDoor
open Go.RowKit
attribute [local go_sem ↓] Go.wp_at_zero Go.wp_at_succ
set_option maxHeartbeats 2000000 in
theorem addRow_any (base b n c s : Nat) (g : Oct.S) (w : World) (h : RowG w base b n c g) (hs : s < 64 * n) (hn : n ≤ 2513169434900) : Calls Tryz.prog 33 #[.slice (some ⟨b, 0, none⟩) n c, .int .i64 (s : Nat)] w fun e w' => e = .returned (.tuple #[]) ∧ RowG w' base b n c (Oct.ins g s) ∧ w.grownBy w' (some b) := by
  obtain ⟨q, hq⟩ : ∃ q, s / 64 = q := ⟨_, rfl⟩
  have hqi : (s : Int) / 64 = (q : Nat) := by omega
  have hqn : q < n := by omega
  have hq0 : (q : Int) < (n : Int) := by omega
  obtain ⟨c0, f0⟩ := h.cell hqn
  have HO : Hid (bits .or .u64 (Oct.word g q : Nat) (IntKind.u64.wrap (2 ^ (s % 64))) = (Oct.word (Oct.ins g s) q : Nat)) := or_bit g s q hq
  have HR : Hid (RowG (w.drew.setCell ⟨b, q, none⟩ (.int .u64 (Oct.word (Oct.ins g s) q : Nat))) base b n c (Oct.ins g s)) := RowG.put (w := w.drew) (h.same rfl) (fun j hj hne => by
    have := ins_oth g s q j hq (fun e => hne e.symm)
    exact Int.ofNat.inj this)
  have HG : Hid (w.grownBy (w.drew.setCell ⟨b, q, none⟩ (.int .u64 (Oct.word (Oct.ins g s) q : Nat))) (some b)) := ⟨rfl, rfl, rfl, by simp, fun k _ hk => Below.heap_setCell w.drew ⟨b, q, none⟩ _ k (fun e => hk (by rw [e]))⟩
  clear h hq
  go_enter Tryz.func33, Tryz.ntmps33
  go_wp2
  go_region
  all_goals
    go_end0
    refine ⟨rfl, ?_, ?_⟩
    · have h := HR.out
      rw [← HO.out] at h
      exact h
    · have h := HG.out
      rw [← HO.out] at h
      exact h
theorem neg_and {x k : Nat} (hx : x < 18446744073709551616) (hk : Oct.Low x k) : bits .and .u64 (x : Nat) (IntKind.u64.wrap (-(x : Int))) = ((2 ^ k : Nat) : Int) := by
  have h0 := hk.pos
  have e : IntKind.u64.wrap (-(x : Int)) = ((18446744073709551616 - x : Nat) : Int) := by
    rw [IntKind.wrap_u64]
    omega
  rw [e, u64_and_nat _ _ hx (by omega), hk.neg hx]
theorem bru_idx {x k : Nat} (hx : x < 18446744073709551616) (hk : Oct.Low x k) : IntKind.u64.wrap (bits .and .u64 (x : Nat) (IntKind.u64.wrap (-(x : Int))) * 285870213051353865) / 288230376151711744 = ((Oct.bru k : Nat) : Int) := by
  rw [neg_and hx hk, IntKind.wrap_u64]
  unfold Oct.bru
  generalize 2 ^ k = y
  omega
theorem pred_and {s : Oct.S} {i p k : Nat} (h : Oct.Low (Oct.from_ s i p) k) : bits .and .u64 (Oct.from_ s i p : Nat) (IntKind.u64.wrap ((Oct.from_ s i p : Nat) - 1)) = (Oct.from_ s i (k + 1) : Nat) := by
  have hx := Oct.from_lt s i p
  have h0 := h.pos
  have e : IntKind.u64.wrap (((Oct.from_ s i p : Nat) : Int) - 1) = ((Oct.from_ s i p - 1 : Nat) : Int) := by
    rw [IntKind.wrap_u64]
    omega
  rw [e, u64_and_nat _ _ hx (by omega), Oct.from_step h]
set_option maxHeartbeats 2000000 in
theorem tz_core (x y z j k : Nat) (w : World) (hx : x ≠ 0) (e1 : bits .and .u64 (x : Nat) (IntKind.u64.wrap (-(x : Int))) = (y : Nat)) (e2 : IntKind.u64.wrap ((y : Nat) * 285870213051353865) = (z : Nat)) (e3 : ((z : Nat) : Int) / 288230376151711744 = (j : Nat)) (hj : j < 64) (hk : k < 64) (hc : w.cell? ⟨0, j, none⟩ = some (.int .u8 (k : Nat))) : Calls Tryz.prog 57 #[.int .u64 (x : Nat)] w fun e w' => e = .returned (.int .i64 (k : Nat)) ∧ w' = w := by
  have hx0 : ¬ (x : Int) = 0 := by omega
  have hx1 : ((x : Int) == 0) = false := by simp [hx]
  have hj' : (j : Int) < 64 := by omega
  have hk0 : (k : Int) < 64 := by omega
  obtain ⟨m, hm⟩ : ∃ m, IntKind.u64.wrap (-(x : Int)) = m := ⟨_, rfl⟩
  rw [hm] at e1
  clear hx
  go_enter Tryz.func57, Tryz.ntmps57
  go_wp2
  go_ret
  refine ⟨ret_int ?_, ?_⟩
  · rfl
  · rfl
theorem tz_z (y j : Nat) (h : IntKind.u64.wrap ((y : Nat) * 285870213051353865) / 288230376151711744 = (j : Nat)) : ∃ z : Nat, IntKind.u64.wrap ((y : Nat) * 285870213051353865) = (z : Nat) ∧ ((z : Nat) : Int) / 288230376151711744 = (j : Nat) := by
  have h0 : 0 ≤ IntKind.u64.wrap ((y : Nat) * 285870213051353865) := by
    rw [IntKind.wrap_u64]
    exact Int.emod_nonneg _ (by decide)
  obtain ⟨z, hz⟩ := Int.eq_ofNat_of_zero_le h0
  exact ⟨z, hz, by rw [← hz]; exact h⟩
theorem tz_any (x k : Nat) (w : World) (hx : x < 18446744073709551616) (hk : Oct.Low x k) (hT : Tab w) : Calls Tryz.prog 57 #[.int .u64 (x : Nat)] w fun e w' => e = .returned (.int .i64 (k : Nat)) ∧ w' = w := by
  have hk64 := hk.lt hx
  have h1 := neg_and hx hk
  have h2 := bru_idx hx hk
  have hc := hT (Oct.bru k) k (Oct.tab_all k hk64)
  have hb := Oct.bru_lt k
  have h0 := hk.pos
  rw [h1] at h2
  generalize 2 ^ k = y at h1 h2
  generalize Oct.bru k = j at h2 hc hb
  obtain ⟨z, h3, h4⟩ := tz_z y j h2
  exact tz_core x y z j k w h0 h1 h3 h4 hb hk64 hc
end Go.Proofs.YtmjnobdlgbojoaaGreatDoor


namespace Go.Proofs.YtmjnobdlgbojoaaGreatDoor
open Go.RowKit Go.Shelf
attribute [local go_sem] Oper.semAt_some
abbrev Sg (g : Oct.S) := { s : Nat // g s = true }
abbrev encg (g : Oct.S) (x : Sg g) : Array Value := #[.int .i64 (x.val : Nat)]
def valsOf {g : Oct.S} (l : List (Sg g)) : List Nat := l.map (fun x => x.val)
theorem valsOf_snoc {g : Oct.S} (l : List (Sg g)) (x : Sg g) : valsOf (l ++ [x]) = valsOf l ++ [x.val] := by unfold valsOf; rw [List.map_append]; rfl
theorem valsOf_length {g : Oct.S} (l : List (Sg g)) : (valsOf l).length = l.length := by unfold valsOf; exact List.length_map _
theorem below_grownS {w w' : World} (h : Below w.heap.size w w') : w.grownBy w' none := ⟨h.os, h.tape, h.output, h.size, fun k hk _ => h.block k hk⟩
set_option maxRecDepth 100000 in
set_option maxHeartbeats 4000000 in
theorem on1_in (nF : Nat) (hF : 1 ≤ nF) (l A b n c base n₀ : Nat) (g : Oct.S) (hb : b < n₀) (h0 : 0 < n₀) (hn : n ≤ 2513169434900) (N : Nat) (hN : (Oct.els g (64 * n)).length ≤ N) (J Jx : List (Sg g) → World → Prop)
    (hY : ∀ pre x W1, J pre W1 → pre.length < N → YieldAt Fence.wide (nF - 1) Tryz.prog l (encg g x) W1 fun e W' =>
      (e = .returned (.bool true) ∧ J (pre ++ [x]) W' ∧ Below n₀ W1 W') ∨ (e = .returned (.bool false) ∧ Jx (pre ++ [x]) W'))
    (W : World) (hA : W.cell? ⟨A, 0, none⟩ = some (.slice (some ⟨b, 0, none⟩) n c)) (hR : RowG W base b n c g) (hT : Tab W) (hJ0 : J [] W) :
    CallsIn Fence.wide nF Tryz.prog 56 #[.func (.yield l) #[] #[], .pointer (some ⟨A, 0, none⟩)] W fun e W' => (∃ v, e = .returned v) ∧
      ((∃ ys, valsOf ys = Oct.els g (64 * n) ∧ J ys W') ∨ (∃ pre, True ∧ Jx pre W')) := by
  have HR0 : Hid (RowG W base b n c g) := hR
  have HT0 : Hid (Tab W) := hT
  have H0 : Hid (J [] W) := hJ0
  have HY : Hid (∀ pre x W1, J pre W1 → pre.length < N → YieldAt Fence.wide (nF - 1) Tryz.prog l (encg g x) W1 fun e W' =>
      (e = .returned (.bool true) ∧ J (pre ++ [x]) W' ∧ Below n₀ W1 W') ∨ (e = .returned (.bool false) ∧ Jx (pre ++ [x]) W')) := hY
  have HNN : Hid ((Oct.els g (64 * n)).length ≤ N) := hN
  clear hR hT hJ0 hY hN
  refine callsIn_of_wp Tryz.func56 rfl trivial ?_ rfl
  simp only [Tryz.ntmps56, List.size_toArray, List.length_cons, List.length_nil, Nat.reduceAdd, Nat.reduceSub, Array.replicate_succ, Array.replicate_zero, List.push_toArray, List.append_toArray, List.nil_append, List.cons_append]
  gi_wp2
  gi_loopw [7] (fun i wr => ∃ k : Nat, k ≤ n ∧ i = .int .i64 k ∧ Hid (RowG wr base b n c g) ∧ Hid (Tab wr) ∧ Hid (∃ pre, valsOf pre = Oct.els g (64 * k) ∧ J pre wr))
    (fun i _ => n - (intOf i).toNat)
  case atStart => exact ⟨0, Nat.zero_le _, rfl, HR0, HT0, ⟨[], rfl, H0.out⟩⟩
  case round =>
    obtain ⟨k, hk, rfl, hr, ht, hj⟩ := hrel
    by_cases hlt : k < n
    · have hlt' : (k : Int) < (n : Int) := by omega
      obtain ⟨c0, _⟩ := hr.out.cell hlt
      have HS : Hid (Oct.word g k = Oct.from_ g k 0) := (Oct.from_zero g k).symm
      obtain ⟨x0, hx0⟩ : ∃ x0, x0 = Oct.word g k := ⟨_, rfl⟩
      rw [← hx0] at c0
      have HX0 : Hid (x0 = Oct.from_ g k 0) := by show _ = _; rw [hx0]; exact HS.out
      clear hx0
      gi_wp2
      gi_loopw [4] (fun x wr => ∃ p y : Nat, p ≤ 64 ∧ x = .int .u64 (y : Nat) ∧ Hid (y = Oct.from_ g k p) ∧ Hid (RowG wr base b n c g) ∧ Hid (Tab wr) ∧ Hid (∃ pre, valsOf pre = Oct.els g (64 * k + p) ∧ J pre wr))
        (fun x _ => (intOf x).toNat)
      case atStart => exact ⟨0, x0, by omega, rfl, HX0, hr, ht, hj⟩
      case round =>
        clear hr ht hj c0
        obtain ⟨p, y, hp, rfl, HY1, hr, ht, hj⟩ := hrel
        by_cases hy0 : y = 0
        · have hy1 : ((y : Int) == 0) = true := by simp [hy0]
          have hy2 : ((y : Int) != 0) = false := by simp [hy0]
          have HN : Hid (Oct.els g (64 * (k + 1)) = Oct.els g (64 * k + p)) := Oct.els_none hp (by rw [← HY1.out]; exact hy0)
          have HJ : Hid (∃ pre, valsOf pre = Oct.els g (64 * (k + 1)) ∧ J pre wr) := by
            obtain ⟨pre, e, hJ⟩ := hj.out
            exact ⟨pre, e.trans HN.out.symm, hJ⟩
          clear hy0 hj
          gi_wp2
          go_roundw
          case rel => exact ⟨k + 1, by omega, by go_num, hr, ht, HJ⟩
          case measure => simp [intOf]; omega
        · obtain ⟨t, ht0⟩ := Oct.low_ex hy0
          have hyl : y < 18446744073709551616 := by rw [HY1.out]; exact Oct.from_lt g k p
          have HTZ : Hid (Calls Tryz.prog 57 #[.int .u64 (y : Nat)] wr fun e w' => e = .returned (.int .i64 (t : Nat)) ∧ w' = wr) := tz_any y t wr hyl ht0 ht.out
          have ht1 := ht0
          rw [HY1.out] at ht1
          obtain ⟨ht64, htp, hgt, hel⟩ := Oct.els_low hp ht1
          have HPR : Hid (bits .and .u64 (y : Nat) (IntKind.u64.wrap ((y : Nat) - 1)) = (Oct.from_ g k (t + 1) : Nat)) := by have := pred_and ht1; rw [← HY1.out] at this; exact this
          have HPL : Hid (Oct.from_ g k (t + 1) < y) := by
            show _ < _
            have e := Oct.from_step ht1
            rw [← HY1.out] at e
            rw [← e]
            have := Nat.and_le_right (n := y) (m := y - 1)
            omega
          obtain ⟨pre, hpre, hJp⟩ := hj.out
          have hlen : pre.length < N := by
            have e : pre.length = (Oct.els g (64 * k + t)).length := by rw [hel, ← hpre, valsOf_length]
            have e2 : (Oct.els g (64 * k + t + 1)).length = (Oct.els g (64 * k + t)).length + 1 := by rw [Oct.els_on hgt]; simp
            have e3 := HNN.out
            have := Oct.els_mono (s := g) (a := 64 * k + t + 1) (b := 64 * n) (by omega)
            omega
          have HPRE : Hid (valsOf (pre ++ [⟨64 * k + t, hgt⟩]) = Oct.els g (64 * k + (t + 1))) := by
            show _ = _
            rw [show 64 * k + (t + 1) = 64 * k + t + 1 by omega, Oct.els_on hgt, hel, ← hpre, valsOf_snoc]
          obtain ⟨fn, tmps, assign, body, hy, hR⟩ := HY.out pre ⟨64 * k + t, hgt⟩ wr hJp hlen
          dsimp only [encg] at hy
          have ec : ((64 * k + t : Nat) : Int) = (k : Int) * 64 + (t : Int) := by omega
          rw [ec] at hy
          have hy1 : ((y : Int) == 0) = false := by simp [hy0]
          have hy2 : ((y : Int) != 0) = true := by simp [hy0]
          have hyi : ¬ (y : Int) = 0 := by omega
          clear hpre hel ec hy0 ht0 ht1 hj hJp
          gi_wp2
          refine ⟨trivial, ?_⟩
          refine (callsIn_wide.2 HTZ.out).mono ?_
          rintro e w1 ⟨rfl, rfl⟩
          clear HTZ
          gi_wp2
          refine hR.mono ?_
          rintro e w3 (⟨rfl, hJ3, hk3⟩ | ⟨rfl, hJx3⟩)
          · have HR3 : Hid (RowG w3 base b n c g) := hr.out.same (hk3.block b hb)
            have HT3 : Hid (Tab w3) := ht.out.low hk3 h0
            have HJ3 : Hid (∃ pre, valsOf pre = Oct.els g (64 * k + (t + 1)) ∧ J pre w3) := ⟨_, HPRE.out, hJ3⟩
            have hpr := HPR.out
            clear hJ3 hk3 hy hR hr ht
            obtain ⟨z, hz⟩ : ∃ z, z = Oct.from_ g k (t + 1) := ⟨_, rfl⟩
            have HZ : Hid (z = Oct.from_ g k (t + 1)) := hz
            have hzl : z < y := by rw [hz]; exact HPL.out
            rw [← hz] at hpr
            have hpr2 : bits .and .u64 (y : Nat) ((y : Int) - 1) = (z : Nat) := by
              rw [← hpr, show IntKind.u64.wrap ((y : Int) - 1) = (y : Int) - 1 by rw [IntKind.wrap_u64]; omega]
            clear hz
            gi_wp2
            go_roundw
            case rel => exact ⟨t + 1, z, by omega, rfl, HZ, HR3, HT3, HJ3⟩
            case measure => simp [intOf]; omega
          · gi_wp2
            refine bodyPost_ret (results_none rfl _ _ _) rfl ?_
            exact ⟨⟨_, rfl⟩, .inr ⟨_, trivial, hJx3⟩⟩
    · have hge : ¬ (k : Int) < (n : Int) := by omega
      have HK : Hid (k = n) := by show k = n; omega
      gi_wp2
      go_end0
      obtain ⟨pre, e, hJ⟩ := hj.out
      exact ⟨⟨_, rfl⟩, .inl ⟨pre, by rw [e, HK.out], hJ⟩⟩
theorem on_stops (nF : Nat) (hF : 1 ≤ nF) (A b n c base n₀ : Nat) (g : Oct.S) (w : World) (hb : b < n₀) (h0 : 0 < n₀) (hn : n ≤ 2513169434900) (hA : w.cell? ⟨A, 0, none⟩ = some (.slice (some ⟨b, 0, none⟩) n c)) (hR : RowG w base b n c g) (hT : Tab w) (N : Nat) (hN : (Oct.els g (64 * n)).length ≤ N) :
    SeqStopsK Fence.wide nF Tryz.prog 56 #[.pointer (some ⟨A, 0, none⟩)] (encg g) (Below n₀) (fun xs => valsOf xs = Oct.els g (64 * n)) (fun _ => True) N w :=
  fun l J Jx W hW _ _ hY h1 => on1_in nF hF l A b n c base n₀ g hb h0 hn N hN J Jx hY W ((hW.cell (p := ⟨A, 0, none⟩) (lt_of_cell hA)).trans hA) (hR.later hW) (hT.later hW) h1
theorem on_any (b n c : Nat) (w : World) : Calls Tryz.prog 31 #[.slice (some ⟨b, 0, none⟩) n c] w fun e w' => e = .returned (.func (.func 56) #[] #[.pointer (some ⟨w.heap.size, 0, none⟩)]) ∧ w' = w.alloc (.cells #[.slice (some ⟨b, 0, none⟩) n c] 74) := by
  go_enter Tryz.func31, Tryz.ntmps31
  go_wp2
  go_ret
  exact ⟨rfl, rfl⟩
end Go.Proofs.YtmjnobdlgbojoaaGreatDoor


namespace Go.Proofs.YtmjnobdlgbojoaaGreatDoor
open Go.RowKit Go.Shelf
attribute [local go_sem] Oper.semAt_some
def ints (l : List Nat) : List Value := l.map fun a => Value.int .i64 (a : Nat)
theorem ints_length (l : List Nat) : (ints l).length = l.length := List.length_map _
theorem ints_snoc (l : List Nat) (a : Nat) : ints (l ++ [a]) = ints l ++ [.int .i64 (a : Nat)] := by unfold ints; rw [List.map_append]; rfl
set_option maxRecDepth 100000 in
set_option maxHeartbeats 4000000 in
theorem appendSeq_any (A b n c base : Nat) (g : Oct.S) (w : World) (hA : w.cell? ⟨A, 0, none⟩ = some (.slice (some ⟨b, 0, none⟩) n c)) (hR : RowG w base b n c g) (hT : Tab w) (hn : n ≤ 2513169434900) (hN : (Oct.els g (64 * n)).length ≤ 17592186044416) :
    Calls Tryz.prog 58 #[.slice none 0 0, .func (.func 56) #[] #[.pointer (some ⟨A, 0, none⟩)]] w fun e W' => ∃ v, e = .returned v ∧ W'.ownsRow w.heap.size 3 1 v (Oct.els g (64 * n)).length (ints (Oct.els g (64 * n))) ∧ Below w.heap.size w W' := by
  have hlt := hR.lt.1
  have hpos := hT.pos
  obtain ⟨N, hNN⟩ : ∃ N, N = (Oct.els g (64 * n)).length := ⟨_, rfl⟩
  rw [← hNN] at hN
  obtain ⟨i0, hi, hz0, hz1, hz2⟩ := info_parts info3
  refine (callsIn_wide (n := 4)).1 ?_
  refine callsIn_of_wp_marks Tryz.func58 rfl trivial ?_ rfl
  simp only [Tryz.ntmps58, List.size_toArray, List.length_cons, List.length_nil, Nat.reduceAdd, Nat.reduceSub, Array.replicate_succ, Array.replicate_zero, List.push_toArray, List.append_toArray, List.nil_append, List.cons_append]
  have kk : Below w.heap.size w (w.alloc (.cells #[.slice none 0 0] 52)) := (Below.refl _ _).alloc (Nat.le_refl _) _
  have bO := Boxed.new w 52 (.slice none 0 0)
  have HST : Hid (SeqStopsK Fence.wide (4 - 1) Tryz.prog 56 #[.pointer (some ⟨A, 0, none⟩)] (encg g) (Below w.heap.size) (fun xs => valsOf xs = Oct.els g (64 * n)) (fun _ => True) N (w.alloc (.cells #[.slice none 0 0] 52))) :=
    on_stops (4 - 1) (by omega) A b n c base w.heap.size g _ hlt hpos hn ((kk.cell (p := ⟨A, 0, none⟩) (lt_of_cell hA)).trans hA) (hR.later kk) (hT.later kk) N (by omega)
  have HKK : Hid (Below w.heap.size w (w.alloc (.cells #[.slice none 0 0] 52))) := kk
  have HBO : Hid (Boxed (w.alloc (.cells #[.slice none 0 0] 52)) w.heap.size 52 (.slice none 0 0)) := bO
  have HNE : Hid (N = (Oct.els g (64 * n)).length) := hNN
  clear hA hR hT kk bO hNN
  gi_wp2
  refine wpIn_rangeFunc_ownG rfl (by omega) (gf := 56) (lb := #[.pointer (some ⟨A, 0, none⟩)]) rfl trivial (enters_of Tryz.func56 (by kernel_rfl) rfl)
    HST.out belowK_t (belowK_b (by simp)) (Below.refl _ _) (fun _ => rfl)
    (fun pre W => (∃ v, Boxed W w.heap.size 52 v ∧ W.ownsRow w.heap.size 3 1 v (valsOf pre).length (ints (valsOf pre)) ∧ True) ∧ Below w.heap.size w W)
    (fun _ _ _ => False)
    (OwnFrom.and (Own.from (holdsRow_own w.heap.size w.heap.size 52 3 1 (fun pre => (valsOf pre).length) (fun pre => ints (valsOf pre)) (fun _ _ => True)) _) (ownFrom_below (Nat.le_refl _) (by simp)))
    (fun _ _ _ _ _ hs _ _ => hs)
    ⟨⟨_, HBO.out, World.ownsRow_nil _ _ _ _, trivial⟩, HKK.out⟩
    (fun x => { tmps := #[.slice none 0 0, .func (.func 56) #[] #[.pointer (some ⟨A, 0, none⟩)], .pointer (some ⟨w.heap.size, 0, none⟩), undef, .slice none 0 0, .int .i64 (x.val : Nat), .func (.func 56) #[] #[.pointer (some ⟨A, 0, none⟩)], .int .i64 (x.val : Nat), undef, undef, undef, undef, undef], defers := [] }) ?assign ?body ?done ?stop
  case assign =>
    intro l x W K hK
    gi_wp2
    exact hK
  case body =>
    rintro l pre x W ⟨⟨v, hv, hrow, _⟩, hB⟩ hlt
    have hc := hv.cell
    have hpl : (valsOf pre).length ≤ pre.length := by rw [valsOf_length]; exact Nat.le_refl _
    have HSN : Hid (valsOf (pre ++ [x]) = valsOf pre ++ [x.val]) := valsOf_snoc pre x
    have hmx : 20000000000000 ≤ maxLen := by decide
    gi_wp2_with (gi_at_builtin; refine wpListIn_append_own _ rfl _ _ 52 rfl w.heap.size 3 i0 (.int .i64 0) 1 8 Tryz.underlying52 hi hz0 hz1 hz2 rfl (by decide) _ _ _ rfl (hrow.alloc _) ⟨W.heap.size, 0, none⟩ 1 1 [.int .i64 (x.val : Nat)] rfl rfl (cell_one_new _ _ _) (by simp [Value.oneCell']) (by omega) (by omega) (by have := hB.size; simp; omega) ?_; intro v' w1 hown' hgrow _; obtain ⟨g', cap', rfl⟩ := ownsRow_succ hown'; obtain ⟨hv1, hv2, hr2, hk2, hb2⟩ := hv.appended (by decide) hrow hB.size (Nat.le_refl _) hown' hgrow; have hc1 := hv1.cell; have hf1 := hv1.frozen)
    refine ⟨hk2.from _, hb2, ⟨_, hv2, ?_, trivial⟩, hB.trans hb2⟩
    rw [HSN.out, ints_snoc, List.length_append]
    exact hr2
  case done =>
    rintro D ys W hD hys ⟨⟨v, hv, hrow, _⟩, hB⟩ hK
    have hc := hv.cell
    rw [hys] at hrow
    clear hys
    gi_wp2
    refine ⟨by simp, .inl ⟨_, _, rfl, run_takeDeferred hK, ?_⟩⟩
    exact ⟨_, results_tmp rfl _ _ _, v, rfl, ownsRow_putObj hrow _ hK rfl, hB.trans (belowK_b (w := w) (Nat.le_refl _) W D _ _ (by simp at hD; omega) hK rfl rfl)⟩
  case stop =>
    rintro D c pre W _ _ h _
    exact h.elim
theorem collect_any (A b n c base : Nat) (g : Oct.S) (w : World) (hA : w.cell? ⟨A, 0, none⟩ = some (.slice (some ⟨b, 0, none⟩) n c)) (hR : RowG w base b n c g) (hT : Tab w) (hn : n ≤ 2513169434900) (hN : (Oct.els g (64 * n)).length ≤ 17592186044416) :
    Calls Tryz.prog 34 #[.func (.func 56) #[] #[.pointer (some ⟨A, 0, none⟩)]] w fun e W' => ∃ v, e = .returned v ∧ W'.ownsRow w.heap.size 3 1 v (Oct.els g (64 * n)).length (ints (Oct.els g (64 * n))) ∧ Below w.heap.size w W' := by
  have HC : Hid (Calls Tryz.prog 58 #[.slice none 0 0, .func (.func 56) #[] #[.pointer (some ⟨A, 0, none⟩)]] w _) := appendSeq_any A b n c base g w hA hR hT hn hN
  clear hA hR hT hN
  go_enter Tryz.func34, Tryz.ntmps34
  go_wp2_with fail
  refine HC.out.mono ?_
  rintro e w' ⟨v, rfl, h1, h2⟩
  have H1 : Hid (w'.ownsRow w.heap.size 3 1 v (Oct.els g (64 * n)).length (ints (Oct.els g (64 * n)))) := h1
  have H2 : Hid (Below w.heap.size w w') := h2
  clear h1 h2 HC
  go_wp2
  go_ret
  exact ⟨v, rfl, H1.out, H2.out⟩
def KsAt (w : World) (a : Option Addr) (ks : List Int) : Prop := ks = [] ∨ ∃ b off, a = some ⟨b, off, none⟩ ∧ ∀ (j : Nat) (x : Int), ks[j]? = some x → w.cell? ⟨b, off + j, none⟩ = some (.int .i64 x)
def hasK (ks : List Int) (x : Int) : Bool := ks.contains x
theorem hasK_iff {ks : List Int} {x : Int} : hasK ks x = true ↔ x ∈ ks := by unfold hasK; simp
theorem hasK_snoc {ks : List Int} {x y : Int} (h : hasK ks x = false) : hasK (ks ++ [y]) x = (x == y) := by
  rw [Bool.eq_iff_iff, hasK_iff]
  have h2 : ¬ x ∈ ks := fun hm => by rw [hasK_iff.2 hm] at h; cases h
  simp [h2]
set_option maxHeartbeats 2000000 in
theorem indexK_any (ks : List Int) (a : Option Addr) (n c : Nat) (x : Int) (w : World) (hn : ks.length = n) (hm : n ≤ 1000) (hK : KsAt w a ks) : Calls Tryz.prog 76 #[.slice a n c, .int .i64 x] w fun r w' => (∃ i : Int, r = .returned (.int .i64 i) ∧ decide (0 ≤ i) = hasK ks x) ∧ w' = w := by
  have HN : Hid (ks.length = n) := hn
  have HK : Hid (KsAt w a ks) := hK
  clear hn hK
  go_enter Tryz.func76, Tryz.ntmps76
  go_wp2_with fail
  go_loop [8] (fun i => ∃ j : Nat, i = .int .i64 (j : Nat) ∧ j ≤ n ∧ Hid (hasK (ks.take j) x = false)) (fun i => n - (intOf i).toNat)
  case atStart => exact ⟨0, rfl, Nat.zero_le _, by show _ = _; rfl⟩
  case round =>
    obtain ⟨j, rfl, hjn, HAL⟩ := hrel
    by_cases hlt : j < n
    · have hlt' : (j : Int) < (n : Int) := by omega
      obtain ⟨y, hy⟩ : ∃ y, ks[j]? = some y := ⟨_, List.getElem?_eq_getElem (by rw [HN.out]; exact hlt)⟩
      obtain ⟨b, off, rfl, hc⟩ : ∃ b off, a = some ⟨b, off, none⟩ ∧ w.cell? ⟨b, off + j, none⟩ = some (.int .i64 y) := by
        rcases HK.out with h | ⟨b, off, h1, h2⟩
        · rw [h] at hy; cases hy
        · exact ⟨b, off, h1, h2 j y hy⟩
      have HTA : Hid (hasK (ks.take (j + 1)) x = (x == y)) := by
        show _ = _
        rw [List.take_add_one, hy]
        exact hasK_snoc HAL.out
      have HYE : Hid (x = y → hasK ks x = true) := fun h => by
        rw [hasK_iff, h]
        exact List.mem_of_getElem? hy
      clear hy
      by_cases he : x = y
      · have HF := HYE.out he
        have HFF : Hid (hasK ks x = true) := HF
        have h1 : (x == y) = true := by simp [he]
        clear HF he
        go_wp2
        go_ret
        exact ⟨⟨(j : Int), rfl, by rw [HFF.out]; simp⟩, rfl⟩
      · have h1 : (x == y) = false := by simp [he]
        have HT2 : Hid (hasK (ks.take (j + 1)) x = false) := by show _ = _; rw [HTA.out, h1]
        go_wp2
        go_round
        case rel => exact ⟨j + 1, by go_num, by omega, HT2⟩
        case measure => simp [intOf]; omega
    · have hlt' : ¬ (j : Int) < (n : Int) := by omega
      have HF : Hid (hasK ks x = false) := by
        show _ = _
        rw [← HAL.out, List.take_of_length_le (by rw [HN.out]; omega)]
      go_wp2
      go_ret
      exact ⟨⟨-1, rfl, by rw [HF.out]; decide⟩, rfl⟩
theorem contains_any (ks : List Int) (a : Option Addr) (n c : Nat) (x : Int) (w : World) (hn : ks.length = n) (hm : n ≤ 1000) (hK : KsAt w a ks) : Calls Tryz.prog 59 #[.slice a n c, .int .i64 x] w fun r w' => r = .returned (.bool (hasK ks x)) ∧ w' = w := by
  have HC : Hid (Calls Tryz.prog 76 #[.slice a n c, .int .i64 x] w _) := indexK_any ks a n c x w hn hm hK
  clear hn hm hK
  go_enter Tryz.func59, Tryz.ntmps59
  go_wp2_with fail
  refine HC.out.mono ?_
  rintro r w2 ⟨⟨i, rfl, hi⟩, rfl⟩
  have HI : Hid (decide (0 ≤ i) = hasK ks x) := hi
  clear hi HC
  by_cases h0 : 0 ≤ i
  · have h1 : decide (0 ≤ i) = true := by simp [h0]
    go_wp2
    go_ret
    exact ⟨by rw [← HI.out, h1]; rfl, rfl⟩
  · have h1 : decide (0 ≤ i) = false := by simp [h0]
    go_wp2
    go_ret
    exact ⟨by rw [← HI.out, h1]; rfl, rfl⟩
end Go.Proofs.YtmjnobdlgbojoaaGreatDoor
