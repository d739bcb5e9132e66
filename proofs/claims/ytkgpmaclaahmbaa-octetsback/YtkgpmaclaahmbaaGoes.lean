/- The walk of the statements' own 'goes': the iterator tells just these rows, left behind any number of them. -/
import Derived.Test.YtkgpmaclaahmbaaRowsMath
import Derived.Test.YtkgpmaclaahmbaaKnown
namespace Go.Proofs.Ytkgpmaclaahmbaa
open Go.RowKit Go.Shelf
attribute [local go_sem] Oper.semAt_some

/-- PAIRS READ FROM A SLICE. -/
def PairsAt (w : World) (a : Option Addr) (l : List (Nat × Nat)) : Prop :=
  l = [] ∨ ∃ g, a = some ⟨g, 0, none⟩ ∧ ∀ k x, l[k]? = some x → w.cell? ⟨g, k * 2, none⟩ = some (.int .i64 (x.1 : Nat)) ∧ w.cell? ⟨g, k * 2 + 1, none⟩ = some (.int .i64 (x.2 : Nat))

theorem prefix_snoc {pre : List Row} {L : List (Nat × Nat)} {x : Row} {y : Nat × Nat} (h : pre.map vals <+: L) (hy : L[(pre.map vals).length]? = some y) : ((pre ++ [x]).map vals <+: L) ↔ vals x = y := by
  obtain ⟨r, rfl⟩ := h
  rw [List.map_append]
  constructor
  · intro h2
    have h3 := List.prefix_append_right_inj _ |>.1 h2
    obtain ⟨q, hq⟩ := h3
    rw [← hq] at hy
    simpa using hy
  · intro e
    refine (List.prefix_append_right_inj _).2 ?_
    cases r with
    | nil => simp at hy
    | cons z r =>
      simp at hy
      subst hy
      simp [e]
/-- a box is cells: no block that is none -/
theorem own_ne {W : World} {B : Nat} {t : TypeId} {v : Value} {row : Option Nat} (h : Boxed W B t v) (hr : ∀ r, row = some r → ∃ o : Obj, W.heap[r]? = some o ∧ o.isCells = false) : some B ≠ row := by
  intro e
  obtain ⟨o, ho, hc⟩ := hr B e.symm
  rw [show W.heap[B]? = _ from h] at ho
  cases ho
  simp [Obj.isCells] at hc
set_option maxRecDepth 100000 in
set_option maxHeartbeats 4000000 in
theorem goes_any (s : Oct.S) (a : Option Addr) (n c : Nat) (most : Int) (L : List (Nat × Nat)) (w : World) (hL : L = refRows s 256) (hn : n = L.length) (hat : PairsAt w a L) :
    Calls Try.prog 18 #[setV s, .slice a n c, .int .i64 most] w fun e w' => e = .returned (.bool true) ∧ Below w.heap.size w w' := by
  have HL : Hid (L = refRows s 256) := hL
  have HN : Hid (n = L.length) := hn
  have HAT : Hid (PairsAt w a L) := hat
  clear hL hn hat
  refine (callsIn_wide (n := 4)).1 ?_
  refine callsIn_of_wp_marks Try.func18 rfl trivial ?_ rfl
  simp only [Try.ntmps18, List.size_toArray, List.length_cons, List.length_nil, Nat.reduceAdd, Nat.reduceSub, Array.replicate_succ, Array.replicate_zero, List.push_toArray, List.append_toArray, List.nil_append, List.cons_append]
  have ef := eql_func
  unfold setV
  gi_wp2_with (refine ⟨trivial, ?_⟩; gi_at_call 9; refine (callsIn_wide.2 (spans_any s _)).mono ?_; rintro e w' ⟨rfl, rfl⟩)
  obtain ⟨W0, hW0⟩ : ∃ W0, W0 = ((((((w.alloc (.cells #[.int .u64 (Oct.word s 0 : Nat), .int .u64 (Oct.word s 1 : Nat), .int .u64 (Oct.word s 2 : Nat), .int .u64 (Oct.word s 3 : Nat)] 24)).alloc (.cells #[.slice a n c] 38)).alloc (.cells #[.int .i64 most] 3)).alloc (.cells #[.bool false] 4)).alloc (.cells #[.int .u64 (Oct.word s 0 : Nat), .int .u64 (Oct.word s 1 : Nat), .int .u64 (Oct.word s 2 : Nat), .int .u64 (Oct.word s 3 : Nat)] 24)).alloc (.cells #[.int .i64 0] 3)) := ⟨_, rfl⟩
  have hz : W0.heap.size = w.heap.size + 6 := by rw [hW0]; simp
  have hB0 : Below w.heap.size w W0 := by
    rw [hW0]
    exact ((((((Below.refl _ w).alloc (Nat.le_refl _) _).alloc (by simp) _).alloc (by simp; omega) _).alloc (by simp; omega) _).alloc (by simp; omega) _).alloc (by simp; omega) _
  have hSA : SB W0 (w.heap.size + 1 + 1 + 1 + 1) s := by
    rw [hW0]
    have h := (sb_new ((((w.alloc (.cells #[.int .u64 (Oct.word s 0 : Nat), .int .u64 (Oct.word s 1 : Nat), .int .u64 (Oct.word s 2 : Nat), .int .u64 (Oct.word s 3 : Nat)] 24)).alloc (.cells #[.slice a n c] 38)).alloc (.cells #[.int .i64 most] 3)).alloc (.cells #[.bool false] 4)) s).later ((Below.refl _ _).alloc (Nat.le_refl _) (.cells #[.int .i64 0] 3))
    simp only [World.size_alloc] at h
    exact h
  have b1 : Boxed W0 (w.heap.size + 1) 38 (.slice a n c) := by
    rw [hW0]
    have h := Boxed.new (w.alloc (.cells #[.int .u64 (Oct.word s 0 : Nat), .int .u64 (Oct.word s 1 : Nat), .int .u64 (Oct.word s 2 : Nat), .int .u64 (Oct.word s 3 : Nat)] 24)) 38 (.slice a n c)
    simp only [World.size_alloc] at h
    exact (((h.alloc _).alloc _).alloc _).alloc _
  have b2 : Boxed W0 (w.heap.size + 1 + 1) 3 (.int .i64 most) := by
    rw [hW0]
    have h := Boxed.new ((w.alloc (.cells #[.int .u64 (Oct.word s 0 : Nat), .int .u64 (Oct.word s 1 : Nat), .int .u64 (Oct.word s 2 : Nat), .int .u64 (Oct.word s 3 : Nat)] 24)).alloc (.cells #[.slice a n c] 38)) 3 (.int .i64 most)
    simp only [World.size_alloc] at h
    exact ((h.alloc _).alloc _).alloc _
  have b3 : Boxed W0 (w.heap.size + 1 + 1 + 1) 4 (.bool false) := by
    rw [hW0]
    have h := Boxed.new (((w.alloc (.cells #[.int .u64 (Oct.word s 0 : Nat), .int .u64 (Oct.word s 1 : Nat), .int .u64 (Oct.word s 2 : Nat), .int .u64 (Oct.word s 3 : Nat)] 24)).alloc (.cells #[.slice a n c] 38)).alloc (.cells #[.int .i64 most] 3)) 4 (.bool false)
    simp only [World.size_alloc] at h
    exact (h.alloc _).alloc _
  have b5 : Boxed W0 (w.heap.size + 1 + 1 + 1 + 1 + 1) 3 (.int .i64 0) := by
    rw [hW0]
    have h := Boxed.new (((((w.alloc (.cells #[.int .u64 (Oct.word s 0 : Nat), .int .u64 (Oct.word s 1 : Nat), .int .u64 (Oct.word s 2 : Nat), .int .u64 (Oct.word s 3 : Nat)] 24)).alloc (.cells #[.slice a n c] 38)).alloc (.cells #[.int .i64 most] 3)).alloc (.cells #[.bool false] 4)).alloc (.cells #[.int .u64 (Oct.word s 0 : Nat), .int .u64 (Oct.word s 1 : Nat), .int .u64 (Oct.word s 2 : Nat), .int .u64 (Oct.word s 3 : Nat)] 24)) 3 (.int .i64 0)
    simp only [World.size_alloc] at h
    exact h
  rw [← hW0]
  clear hW0
  have hlen : n ≤ 257 := by have := ref_length s 256; rw [HN.out, HL.out]; omega
  refine wpIn_rangeFunc_ownF rfl (by omega) (gf := 28) (lb := #[.pointer (some ⟨w.heap.size + 1 + 1 + 1 + 1, 0, none⟩)]) rfl trivial (enters_of Try.func28 (by kernel_rfl) rfl)
    (spans_stops (4 - 1) (by omega) (w.heap.size + 1 + 1 + 1 + 1) (w.heap.size + 1 + 1 + 1 + 1 + 1) s W0 (by omega) hSA) belowK_t (belowK_b (by omega)) (Below.refl _ _) (fun _ => rfl)
    (fun pre W => (Hid (pre.map vals <+: L) ∧ Boxed W (w.heap.size + 1) 38 (.slice a n c) ∧ Boxed W (w.heap.size + 1 + 1) 3 (.int .i64 most) ∧ Boxed W (w.heap.size + 1 + 1 + 1) 4 (.bool false) ∧ Boxed W (w.heap.size + 1 + 1 + 1 + 1 + 1) 3 (.int .i64 (pre.length : Nat))) ∧ Below w.heap.size w W)
    (fun c' pre W => (c' = .ret ∧ Boxed W (w.heap.size + 1 + 1 + 1) 4 (.bool (decide (pre.map vals <+: L)))) ∧ Below w.heap.size w W)
    (OwnFrom.and (Own.from (fun s A B row hs hg hr => ⟨hs.1, hs.2.1.kept hg (own_ne hs.2.1 hr), hs.2.2.1.kept hg (own_ne hs.2.2.1 hr), hs.2.2.2.1.kept hg (own_ne hs.2.2.2.1 hr), hs.2.2.2.2.kept hg (own_ne hs.2.2.2.2 hr)⟩) _) (ownFrom_below (Nat.le_refl _) (by omega)))
    (fun c' => OwnFrom.and (Own.from (fun s A B row hs hg hr => ⟨hs.1, hs.2.kept hg (own_ne hs.2 hr)⟩) _) (ownFrom_below (Nat.le_refl _) (by omega)))
    ⟨⟨by show _ <+: _; simp, b1, b2, b3, b5⟩, hB0⟩
    (fun x => { tmps := #[.agg #[.int .u64 (Oct.word s 0 : Nat), .int .u64 (Oct.word s 1 : Nat), .int .u64 (Oct.word s 2 : Nat), .int .u64 (Oct.word s 3 : Nat)], .slice a n c, .int .i64 most, .pointer (some ⟨w.heap.size, 0, none⟩), .pointer (some ⟨w.heap.size + 1, 0, none⟩), .pointer (some ⟨w.heap.size + 1 + 1, 0, none⟩), .pointer (some ⟨w.heap.size + 1 + 1 + 1, 0, none⟩), .func (.func 28) #[] #[.pointer (some ⟨w.heap.size + 1 + 1 + 1 + 1, 0, none⟩)], .pointer (some ⟨w.heap.size + 1 + 1 + 1 + 1 + 1, 0, none⟩), .int .u8 (x.1.val : Nat), .int .u8 (x.2.val : Nat), .agg #[.int .u64 (Oct.word s 0 : Nat), .int .u64 (Oct.word s 1 : Nat), .int .u64 (Oct.word s 2 : Nat), .int .u64 (Oct.word s 3 : Nat)], .func (.func 28) #[] #[.pointer (some ⟨w.heap.size + 1 + 1 + 1 + 1, 0, none⟩)], .func (.func 28) #[] #[.pointer (some ⟨w.heap.size + 1 + 1 + 1 + 1, 0, none⟩)], .bool false, .func (.func 28) #[] #[.pointer (some ⟨w.heap.size + 1 + 1 + 1 + 1, 0, none⟩)], .int .u8 (x.1.val : Nat), .int .u8 (x.2.val : Nat), undef, undef, undef, undef, undef, undef, undef, undef, undef, undef, undef, undef, undef, undef, undef, undef, undef, undef, undef, undef, undef, undef, undef, undef, undef, undef, undef, undef, undef, undef, undef, undef, undef], defers := [] }) ?assign ?body ?done ?stop
  case assign =>
    intro l x W K hK
    gi_wp2
    exact hK
  case body =>
    rintro l pre x W ⟨⟨hm, b1, b2, b3, b5⟩, hB⟩ _
    have hle : pre.length ≤ n := by have := hm.out.length_le; rw [List.length_map] at this; rw [HN.out]; exact this
    obtain ⟨i, hi⟩ : ∃ i, i = pre.length := ⟨_, rfl⟩
    have HI : Hid (i = pre.length) := hi
    rw [← hi] at b5 hle
    clear hi
    have HB1 : Hid (Boxed W (w.heap.size + 1) 38 (.slice a n c)) := b1
    have HB2 : Hid (Boxed W (w.heap.size + 1 + 1) 3 (.int .i64 most)) := b2
    have HB3 : Hid (Boxed W (w.heap.size + 1 + 1 + 1) 4 (.bool false)) := b3
    have HB5 : Hid (Boxed W (w.heap.size + 1 + 1 + 1 + 1 + 1) 3 (.int .i64 (i : Nat))) := b5
    have HBB : Hid (Below w.heap.size w W) := hB
    have c1 := b1.cell
    have c2 := b2.cell
    have c3 := b3.cell
    have f3 := b3.frozen
    have c5 := b5.cell
    have f5 := b5.frozen
    have HSTOP : Hid (∀ v : Bool, v = decide ((pre ++ [x]).map vals <+: L) → (KeepsOthers W (W.setCell ⟨w.heap.size + 1 + 1 + 1, 0, none⟩ (.bool v)) ∧ Boxed (W.setCell ⟨w.heap.size + 1 + 1 + 1, 0, none⟩ (.bool v)) (w.heap.size + 1 + 1 + 1) 4 (.bool (decide ((pre ++ [x]).map vals <+: L))) ∧ Below w.heap.size w (W.setCell ⟨w.heap.size + 1 + 1 + 1, 0, none⟩ (.bool v)))) := fun v hv => by
      subst hv
      exact ⟨KeepsOthers.setCell _ _ _, b3.set _, hB.setCell (p := ⟨w.heap.size + 1 + 1 + 1, 0, none⟩) (by simp; omega) _⟩
    clear b1 b2 b3 b5 hB
    by_cases hlt : i < n
    · have hiL : i < L.length := by rw [← HN.out]; exact hlt
      obtain ⟨y, hy⟩ : ∃ y, L[i]? = some y := ⟨_, List.getElem?_eq_getElem hiL⟩
      have HY : Hid (L[i]? = some y) := hy
      rcases HAT.out with hnil | ⟨g, rfl, hcells⟩
      · rw [hnil] at hiL; simp at hiL
      · obtain ⟨p0, p1⟩ := hcells i y hy
        have hg := World.block_lt_of_cell? w _ p0
        have q0 := (HBB.out.cell (p := ⟨g, i * 2, none⟩) hg).trans p0
        have q1 := (HBB.out.cell (p := ⟨g, i * 2 + 1, none⟩) hg).trans p1
        clear hcells p0 p1 hy hiL hg
        have hi0 : (0 : Int) ≤ (i : Int) := by omega
        have hi1 : (i : Int) < (n : Int) := by omega
        have HPRE : Hid (((pre ++ [x]).map vals <+: L) ↔ vals x = y) := prefix_snoc hm.out (by rw [List.length_map, ← HI.out]; exact HY.out)
        by_cases e0 : x.1.val = y.1
        · by_cases e1 : x.2.val = y.2
          · have HT : Hid ((pre ++ [x]).map vals <+: L) := HPRE.out.2 (by simp [vals, e0, e1])
            have i0 : ((x.1.val : Int) == (y.1 : Int)) = true := by simp [e0]
            have i1 : ((x.2.val : Int) == (y.2 : Int)) = true := by simp [e1]
            by_cases hmo : most ≤ (i : Int) + 1
            · gi_wp2
              exact ⟨(KeepsOthers.setCell _ _ _).trans (KeepsOthers.setCell _ _ _), ⟨rfl, by rw [decide_eq_true HT.out]; exact (HB3.out.other (by omega) _).set _⟩, (HBB.out.setCell (p := ⟨w.heap.size + 1 + 1 + 1 + 1 + 1, 0, none⟩) (by simp; omega) _).setCell (p := ⟨w.heap.size + 1 + 1 + 1, 0, none⟩) (by simp; omega) _⟩
            · gi_wp2
              refine ⟨KeepsOthers.setCell _ _ _, (Below.refl _ W).setCell (p := ⟨w.heap.size + 1 + 1 + 1 + 1 + 1, 0, none⟩) (Nat.le_refl _) _, ⟨HT, HB1.out.other (by omega) _, HB2.out.other (by omega) _, HB3.out.other (by omega) _, ?_⟩, HBB.out.setCell (p := ⟨w.heap.size + 1 + 1 + 1 + 1 + 1, 0, none⟩) (by simp; omega) _⟩
              have h := HB5.out.set (.int .i64 ((i : Int) + 1))
              have e : ((i : Int) + 1) = (((pre ++ [x]).length : Nat) : Int) := by rw [HI.out]; simp
              rw [e] at h ⊢
              exact h
          · have i0 : ((x.1.val : Int) == (y.1 : Int)) = true := by simp [e0]
            have i1 : ((x.2.val : Int) == (y.2 : Int)) = false := by simp; omega
            have i2 : ¬ (x.2.val : Int) = (y.2 : Int) := by omega
            have i3 : ((x.2.val : Int) != (y.2 : Int)) = true := by simp; omega
            gi_wp2
            obtain ⟨g1, g2, g3⟩ := HSTOP.out false (by symm; rw [decide_eq_false_iff_not, HPRE.out]; intro e; exact e1 (by rw [← e]; rfl))
            exact ⟨g1, ⟨rfl, g2⟩, g3⟩
        · have i0 : ((x.1.val : Int) == (y.1 : Int)) = false := by simp; omega
          have i2 : ¬ (x.1.val : Int) = (y.1 : Int) := by omega
          gi_wp2
          obtain ⟨g1, g2, g3⟩ := HSTOP.out false (by symm; rw [decide_eq_false_iff_not, HPRE.out]; intro e; exact e0 (by rw [← e]; rfl))
          exact ⟨g1, ⟨rfl, g2⟩, g3⟩
    · have hge : (n : Int) ≤ (i : Int) := by omega
      gi_wp2
      obtain ⟨g1, g2, g3⟩ := HSTOP.out false (by symm; rw [decide_eq_false_iff_not]; intro h; have := h.length_le; rw [List.length_map, List.length_append, ← HI.out, ← HN.out] at this; simp at this; omega)
      exact ⟨g1, ⟨rfl, g2⟩, g3⟩
  case done =>
    rintro D ys W hD hys ⟨⟨hm, b1, b2, b3, b5⟩, hB⟩ hK
    have hlen2 : ys.length = n := by rw [hys, HN.out, HL.out, ← rows_ref, List.length_map]
    clear hys
    rw [hlen2] at b5
    have c1 := b1.cell
    have c3 := b3.cell
    have f3 := b3.frozen
    have c5 := b5.cell
    gi_wp2
    have hK' := (KeepsOthers.setCell W ⟨w.heap.size + 1 + 1 + 1, 0, none⟩ (.bool true)).same D _ hK rfl
    refine ⟨by simp, .inl ⟨_, _, rfl, run_takeDeferred hK', ?_⟩⟩
    have hc5 := cell_kept (b3.set (.bool true)).cell (grownBy_putObj' _ D (.deferred none)) (fun r e => by cases e; exact ⟨_, hK', rfl⟩)
    refine ⟨.bool true, ?_, rfl, (hB.setCell (p := ⟨w.heap.size + 1 + 1 + 1, 0, none⟩) (by simp; omega) _).trans (belowK_b (w := w) (Nat.le_refl _) _ D _ _ (by omega) hK' rfl rfl)⟩
    simp [results, Try.results18, go_sem, hc5]
  case stop =>
    rintro D c' pre W hD ⟨k, hk, hpre⟩ ⟨⟨rfl, b3⟩, hB⟩ hK
    have ht : pre.map vals <+: L := by rw [hpre, HL.out]; exact rows_vals s k hk
    clear hpre
    rw [decide_eq_true ht] at b3
    have c3 := b3.cell
    gi_wp2
    refine ⟨by simp, .inl ⟨_, _, rfl, run_takeDeferred hK, ?_⟩⟩
    have hc5 := cell_kept b3.cell (grownBy_putObj' _ D (.deferred none)) (fun r e => by cases e; exact ⟨_, hK, rfl⟩)
    refine ⟨.bool true, ?_, rfl, hB.trans (belowK_b (w := w) (Nat.le_refl _) W D _ _ (by omega) hK rfl rfl)⟩
    simp [results, Try.results18, go_sem, hc5]
end Go.Proofs.Ytkgpmaclaahmbaa
