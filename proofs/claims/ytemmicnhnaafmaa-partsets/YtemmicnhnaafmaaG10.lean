/- The chapter's second example. -/
import Derived.Test.YtemmicnhnaafmaaG08
import Derived.Test.YtemmicnhnaafmaaG09
import Derived.Test.YtemmicnhnaafmaaG02
import Derived.Test.YtemmicnhnaafmaaG03
namespace Go.Proofs.Ytemmicnhnaafmaa
open Go.RowKit

def kss : List Oct.S := [Oct.span 97 109, Oct.span 103 122]
set_option maxRecDepth 100000 in
theorem k_cnt : Pt.cnt (Pt.sameB kss) 256 = 4 := by kernel_rfl
theorem k_0 : Pt.cls (Pt.sameB kss) 0 = 0 := by kernel_rfl
theorem k_97 : Pt.cls (Pt.sameB kss) 97 = 1 := by kernel_rfl
theorem k_109 : Pt.cls (Pt.sameB kss) 109 = 2 := by kernel_rfl
theorem k_122 : Pt.cls (Pt.sameB kss) 122 = 3 := by kernel_rfl
theorem k_255 : Pt.cls (Pt.sameB kss) 255 = 0 := by kernel_rfl
theorem clsV_at {ss : List Oct.S} {i k : Nat} (h : Pt.cls (Pt.sameB ss) i = k) : clsV ss i = (k : Int) := by unfold clsV; rw [h]
set_option maxRecDepth 20000 in
set_option maxHeartbeats 2000000 in
theorem known_any (w : World) : Calls Try.prog 7 #[] w fun e w' => e = .returned (.bool true) ∧ Below w.heap.size w w' := by
  have hz := zeroArr
  go_enter Try.func7, Try.ntmps7
  go_wp2_with fail
  refine (rspan_any 97 109 w).mono ?_
  rintro e w1 ⟨rfl, hb1⟩
  have HB1 : Hid (Below w.heap.size w w1) := hb1
  clear hb1
  unfold setV
  go_wp2_with fail
  refine (rspan_any 103 122 w1).mono ?_
  rintro e w2 ⟨rfl, hb2⟩
  have HB2 : Hid (Below w.heap.size w w2) := below_trans HB1.out hb2 HB1.out.size
  clear hb2 HB1
  unfold setV
  have HSL := sl2_new w2 (Oct.span 97 109) (Oct.span 103 122) _ rfl
  have HL : Hid (SL _ _ _) := HSL
  have HB3 : Hid (Below w.heap.size w (w2.alloc (.cells #[.int .u64 (Oct.word (Oct.span 97 109) 0 : Nat), .int .u64 (Oct.word (Oct.span 97 109) 1 : Nat), .int .u64 (Oct.word (Oct.span 97 109) 2 : Nat), .int .u64 (Oct.word (Oct.span 97 109) 3 : Nat), .int .u64 (Oct.word (Oct.span 103 122) 0 : Nat), .int .u64 (Oct.word (Oct.span 103 122) 1 : Nat), .int .u64 (Oct.word (Oct.span 103 122) 2 : Nat), .int .u64 (Oct.word (Oct.span 103 122) 3 : Nat)] 31))) := HB2.out.alloc HB2.out.size _
  clear HSL
  go_wp2_with fail
  refine (classes_any (some ⟨w2.heap.size, 0, none⟩) 2 2 kss _ rfl (by decide) (by decide) HL.out.at).mono ?_
  rintro e w3 ⟨rfl, hb3⟩
  have HB4 : Hid (Below w.heap.size w w3) := below_trans HB3.out hb3 HB3.out.size
  clear hb3 HB3 HB2 HL
  rw [k_cnt]
  have HA0 := ab_new w3 (fun _ => 0)
  have HA1 : Hid (AB (w3.alloc (.cells (cv fun _ => 0) 38)) w3.heap.size (fun _ => 0)) := HA0
  have HA2 := ab_new w3 (clsV kss)
  have he := World.setRow_alloc_new w3 (cv fun _ => 0) (cv (clsV kss)) 38
  have c0 := (HA2.cell (i := 0) (by decide)).1
  have c1 := (HA2.cell (i := 97) (by decide)).1
  have c2 := (HA2.cell (i := 109) (by decide)).1
  have c3 := (HA2.cell (i := 122) (by decide)).1
  have c4 := (HA2.cell (i := 255) (by decide)).1
  rw [clsV_at k_0] at c0
  rw [clsV_at k_97] at c1
  rw [clsV_at k_109] at c2
  rw [clsV_at k_122] at c3
  rw [clsV_at k_255] at c4
  have HB5 : Hid (Below w.heap.size w (w3.alloc (.cells (cv (clsV kss)) 38))) := HB4.out.alloc HB4.out.size _
  clear HA0 HA2 HB4
  go_wp2_with (refine wpList_store_arr rfl (.tmp 1) (.tmp 8) rfl HA1.out rfl rfl ?_; rw [he])
  go_ret
  exact ⟨rfl, HB5.out⟩
end Go.Proofs.Ytemmicnhnaafmaa

/- Small laws: equality of sets, heronlaw09.small; what PartTells asks of classes, plain. -/
namespace Go.Proofs.Ytemmicnhnaafmaa
open Go.RowKit
attribute [local go_sem ↓] Go.wp_at_zero Go.wp_at_succ

def eqS (s t : Oct.S) : Bool := decide (Oct.word s 0 = Oct.word t 0) && decide (Oct.word s 1 = Oct.word t 1) && decide (Oct.word s 2 = Oct.word t 2) && decide (Oct.word s 3 = Oct.word t 3)
theorem eqS_refl (s : Oct.S) : eqS s s = true := by simp [eqS]
set_option maxHeartbeats 2000000 in
theorem eq4_gen (a b c d a' b' c' d' : Nat) (w : World) : (Op.equalIn 10000 31 (.agg #[.int .u64 (a : Nat), .int .u64 (b : Nat), .int .u64 (c : Nat), .int .u64 (d : Nat)]) (.agg #[.int .u64 (a' : Nat), .int .u64 (b' : Nat), .int .u64 (c' : Nat), .int .u64 (d' : Nat)])).run Try.prog w = .ok (decide (a = a') && decide (b = b') && decide (c = c') && decide (d = d')) w := by
  obtain ⟨i0, hi, hz0, hz1, hz2⟩ := info_parts info29
  have h1 : ∀ x y : Nat, (Op.equalIn 9999 29 (.int .u64 (x : Nat)) (.int .u64 (y : Nat))).run Try.prog w = .ok (decide (x = y)) w := fun x y => by
    rw [run_equalIn_int w 9998 29 .u64 .u64 x y Try.underlying29]
    congr 1
    rw [Bool.eq_iff_iff]
    simp
    omega
  rw [show (10000 : Nat) = 9999 + 1 from rfl, Op.equalIn]
  by_cases ha : a = a'
  · by_cases hb : b = b'
    · by_cases hc : c = c'
      · by_cases hd : d = d'
        · simp [run_underlying Try.underlying31, sizeOf, typeInfo, hi, hz1, part, Try.isAgg29, Std.Legacy.Range.forIn_eq_forIn_range', Std.Legacy.Range.size, List.range'_succ, List.range'_zero, h1, ha, hb, hc, hd]
        · simp [run_underlying Try.underlying31, sizeOf, typeInfo, hi, hz1, part, Try.isAgg29, Std.Legacy.Range.forIn_eq_forIn_range', Std.Legacy.Range.size, List.range'_succ, List.range'_zero, h1, ha, hb, hc, hd]
      · simp [run_underlying Try.underlying31, sizeOf, typeInfo, hi, hz1, part, Try.isAgg29, Std.Legacy.Range.forIn_eq_forIn_range', Std.Legacy.Range.size, List.range'_succ, List.range'_zero, h1, ha, hb, hc]
    · simp [run_underlying Try.underlying31, sizeOf, typeInfo, hi, hz1, part, Try.isAgg29, Std.Legacy.Range.forIn_eq_forIn_range', Std.Legacy.Range.size, List.range'_succ, List.range'_zero, h1, ha, hb]
  · simp [run_underlying Try.underlying31, sizeOf, typeInfo, hi, hz1, part, Try.isAgg29, Std.Legacy.Range.forIn_eq_forIn_range', Std.Legacy.Range.size, List.range'_succ, List.range'_zero, h1, ha]
/-- a set that holds nothing -/
def noSet (s : Oct.S) : Bool := decide (Oct.word s 0 = 0) && decide (Oct.word s 1 = 0) && decide (Oct.word s 2 = 0) && decide (Oct.word s 3 = 0)
set_option maxRecDepth 4000 in
set_option maxHeartbeats 2000000 in
theorem eq4_zero (a b c d : Nat) (w : World) : (Op.equalIn 10000 31 (.agg #[.int .u64 (a : Nat), .int .u64 (b : Nat), .int .u64 (c : Nat), .int .u64 (d : Nat)]) (.agg #[.int .u64 0, .int .u64 0, .int .u64 0, .int .u64 0])).run Try.prog w = .ok (decide (a = 0) && decide (b = 0) && decide (c = 0) && decide (d = 0)) w := by
  obtain ⟨i0, hi, hz0, hz1, hz2⟩ := info_parts info29
  have h1 : ∀ x : Nat, (Op.equalIn 9999 29 (.int .u64 (x : Nat)) (.int .u64 0)).run Try.prog w = .ok (decide (x = 0)) w := fun x => by
    rw [run_equalIn_int w 9998 29 .u64 .u64 x 0 Try.underlying29]
    congr 1
    rw [Bool.eq_iff_iff]
    simp
  have h10 : (Op.equalIn 9999 29 (.int .u64 0) (.int .u64 0)).run Try.prog w = .ok true w := h1 0
  rw [show (10000 : Nat) = 9999 + 1 from rfl, Op.equalIn]
  by_cases ha : a = 0
  · by_cases hb : b = 0
    · by_cases hc : c = 0
      · by_cases hd : d = 0
        · simp [run_underlying Try.underlying31, sizeOf, typeInfo, hi, hz1, part, Try.isAgg29, Std.Legacy.Range.forIn_eq_forIn_range', Std.Legacy.Range.size, List.range'_succ, List.range'_zero, ha, hb, hc, hd, h10]
        · simp [run_underlying Try.underlying31, sizeOf, typeInfo, hi, hz1, part, Try.isAgg29, Std.Legacy.Range.forIn_eq_forIn_range', Std.Legacy.Range.size, List.range'_succ, List.range'_zero, h1, ha, hb, hc, hd, h10]
      · simp [run_underlying Try.underlying31, sizeOf, typeInfo, hi, hz1, part, Try.isAgg29, Std.Legacy.Range.forIn_eq_forIn_range', Std.Legacy.Range.size, List.range'_succ, List.range'_zero, h1, ha, hb, hc, h10]
    · simp [run_underlying Try.underlying31, sizeOf, typeInfo, hi, hz1, part, Try.isAgg29, Std.Legacy.Range.forIn_eq_forIn_range', Std.Legacy.Range.size, List.range'_succ, List.range'_zero, h1, ha, hb, h10]
  · simp [run_underlying Try.underlying31, sizeOf, typeInfo, hi, hz1, part, Try.isAgg29, Std.Legacy.Range.forIn_eq_forIn_range', Std.Legacy.Range.size, List.range'_succ, List.range'_zero, h1, ha]
theorem word_has_eq {s t : Oct.S} {b : Nat} (h : Oct.word s (b / 64) = Oct.word t (b / 64)) : s b = t b := by
  have h1 := Oct.word_has s b
  have h2 := Oct.word_has t b
  rw [h] at h1
  rw [h1] at h2
  cases hs : s b <;> cases ht : t b <;> simp [hs, ht] at h2 ⊢
theorem eqS_iff (s t : Oct.S) : eqS s t = true ↔ ∀ b, b < 256 → s b = t b := by
  constructor
  · intro h b hb
    simp [eqS] at h
    obtain ⟨⟨⟨h0, h1⟩, h2⟩, h3⟩ := h
    apply word_has_eq
    have : b / 64 = 0 ∨ b / 64 = 1 ∨ b / 64 = 2 ∨ b / 64 = 3 := by omega
    rcases this with e | e | e | e <;> rw [e] <;> assumption
  · intro h
    unfold eqS
    rw [Oct.word_congr (s := s) (t := t) (i := 0) (fun k hk => h _ (by omega)), Oct.word_congr (s := s) (t := t) (i := 1) (fun k hk => h _ (by omega)), Oct.word_congr (s := s) (t := t) (i := 2) (fun k hk => h _ (by omega)), Oct.word_congr (s := s) (t := t) (i := 3) (fun k hk => h _ (by omega))]
    simp
theorem noSet_eq (s : Oct.S) : noSet s = eqS s Oct.none := by
  unfold noSet eqS
  rw [show Oct.none = fun _ => false from rfl, Oct.word_none, Oct.word_none, Oct.word_none, Oct.word_none]
theorem noSet_iff (s : Oct.S) : noSet s = true ↔ ∀ b, b < 256 → s b = false := by
  rw [noSet_eq, eqS_iff]
  exact ⟨fun h b hb => h b hb, fun h b hb => h b hb⟩
theorem small_any (a : Option Addr) (n cap m : Nat) (w : World) (hc : n ≤ cap) (hm : m ≤ 1000) (ha : n = 0 ∨ ∃ b off, a = some ⟨b, off, none⟩) : Calls Try.prog 12 #[.slice a n cap, .int .i64 (m : Nat)] w fun e w' => e = .returned (.slice a (min n m) cap) ∧ w' = w := by
  by_cases h : m < n
  · have h' : (m : Int) < (n : Int) := by omega
    have hmin : min n m = m := by omega
    have hcap : (m : Int) ≤ (cap : Int) := by omega
    rw [hmin]
    rcases ha with h0 | ⟨b, off, rfl⟩
    · omega
    · go_enter Try.func12, Try.ntmps12
      go_wp2
      go_ret
      exact ⟨rfl, rfl⟩
  · have h' : ¬ (m : Int) < (n : Int) := by omega
    have hmin : min n m = n := by omega
    rw [hmin]
    go_enter Try.func12, Try.ntmps12
    go_wp2
    go_ret
    exact ⟨rfl, rfl⟩
theorem setsAt_take {w : World} {a : Option Addr} {l : List Oct.S} (h : SetsAt w a l) (m : Nat) : SetsAt w a (l.take m) := by
  rcases h with rfl | ⟨b, off, rfl, hc⟩
  · exact .inl (by simp)
  · refine .inr ⟨b, off, rfl, fun k s hk => hc k s ?_⟩
    rw [List.getElem?_take] at hk
    split at hk
    · exact hk
    · cases hk
/-- the classes that meet a set -/
def Lc (ss : List Oct.S) (s : Oct.S) (c : Nat) : List Oct.S := ((List.range c).filter fun d => !noSet (Oct.meet (Pt.memb (clsV ss) (d : Nat)) s)).map fun d => Pt.memb (clsV ss) (d : Nat)
theorem Lc_succ (ss : List Oct.S) (s : Oct.S) (c : Nat) : Lc ss s (c + 1) = Lc ss s c ++ (if noSet (Oct.meet (Pt.memb (clsV ss) (c : Nat)) s) = true then [] else [Pt.memb (clsV ss) (c : Nat)]) := by
  unfold Lc
  rw [List.range_succ, List.filter_append, List.map_append]
  congr 1
  cases h : noSet (Oct.meet (Pt.memb (clsV ss) (c : Nat)) s) <;> simp [h]
theorem Lc_len (ss : List Oct.S) (s : Oct.S) (c : Nat) : (Lc ss s c).length ≤ c := by
  unfold Lc
  rw [List.length_map]
  have := List.length_filter_le (fun d => !noSet (Oct.meet (Pt.memb (clsV ss) (d : Nat)) s)) (List.range c)
  simpa using this
theorem memb_cls (ss : List Oct.S) (d b : Nat) : Pt.memb (clsV ss) (d : Nat) b = (decide (b < 256) && decide (Pt.cls (Pt.sameB ss) b = d)) := by
  unfold Pt.memb clsV
  congr 1
  rw [Bool.eq_iff_iff]
  simp
  omega
theorem Lc_joins {ss : List Oct.S} {s : Oct.S} (hs : s ∈ ss) : eqS (Oct.joins (Lc ss s (Pt.cnt (Pt.sameB ss) 256))) s = true := by
  have E := Pt.sameB_eqv ss
  rw [eqS_iff]
  intro b hb
  rw [Bool.eq_iff_iff]
  unfold Oct.joins Lc
  rw [List.any_eq_true]
  constructor
  · rintro ⟨t, ht, hb2⟩
    rw [List.mem_map] at ht
    obtain ⟨d, hd, rfl⟩ := ht
    have hd2 := (List.mem_filter.1 hd).2
    have hne : ¬ noSet (Oct.meet (Pt.memb (clsV ss) (d : Nat)) s) = true := by simpa using hd2
    rw [noSet_iff] at hne
    have : ∃ y, y < 256 ∧ Oct.meet (Pt.memb (clsV ss) (d : Nat)) s y = true := by
      apply Classical.byContradiction
      intro h
      apply hne
      intro y hy
      cases e : Oct.meet (Pt.memb (clsV ss) (d : Nat)) s y
      · rfl
      · exact absurd ⟨y, hy, e⟩ h
    obtain ⟨y, hy, hm⟩ := this
    unfold Oct.meet at hm
    rw [memb_cls] at hm hb2
    simp at hm hb2
    have h1 : Pt.cls (Pt.sameB ss) b = Pt.cls (Pt.sameB ss) y := by rw [hb2.2, hm.1.2]
    have h2 := Pt.sameB_iff.1 ((Pt.cls_iff E b y).1 h1) s hs
    rw [h2, hm.2]
  · intro hsb
    refine ⟨_, List.mem_map.2 ⟨Pt.cls (Pt.sameB ss) b, List.mem_filter.2 ⟨by simpa using Pt.cls_lt E hb, ?_⟩, rfl⟩, ?_⟩
    · have : ¬ noSet (Oct.meet (Pt.memb (clsV ss) ((Pt.cls (Pt.sameB ss) b : Nat) : Int)) s) = true := by
        rw [noSet_iff]
        intro h
        have h1 := h b hb
        unfold Oct.meet at h1
        rw [memb_cls, hsb] at h1
        simp [hb] at h1
      simpa using this
    · rw [memb_cls]
      simp [hb]
end Go.Proofs.Ytemmicnhnaafmaa
