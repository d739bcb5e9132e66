/- ring.New and All, of numbers. -/
import Derived.Test.YtclcpblpmfijiaaG07
namespace Go.Proofs.Ytclcpblpmfijiaa
open Go.RowKit Go.Maps Rg
attribute [local go_sem ↓] Go.wp_at_zero Go.wp_at_succ

theorem infI : (Try.prog.info? 3).map (fun i => (i.zero, i.size, i.bytes)) = some (some (.int .i64 0), 1, 8) := by kernel_rfl
theorem make_ints (n : Nat) (hn : n ≤ 1000000) (u : World) : (Instr.makeSlice 43 (.int .i64 (n : Nat)) (.int .i64 (n : Nat))).run Try.prog u = .ok (.slice (some ⟨u.heap.size, 0, none⟩) n n) (u.alloc (.cells (madeCells (Value.int .i64 0).cells (n * 1)) 3)) := by
  obtain ⟨i0, hi, hz0, hz1, hz2⟩ := info_parts infI
  have h := run_make (P := Try.prog) u 43 3 i0 (.int .i64 0) Try.underlying43 hi hz0 .i64 .i64 (n : Nat) (n : Nat) (by omega) (Int.le_refl _) (by rw [hz2]; omega) (by omega)
  simp only [Int.toNat_natCast, hz1] at h
  exact h
theorem made_row (w : World) (n : Nat) : RRow (w.alloc (.cells (madeCells (Value.int .i64 0).cells (n * 1)) 3)) w.heap.size n (fun _ => 0) :=
  ⟨_, heap_alloc_new w _, by simp [madeCells], fun p hp => by simp [madeCells, Value.cells, hp, Nat.mod_one]⟩
def NewR (z : Int) (B R : Nat) (w w' : World) : Prop := RgAt w' B R z.toNat 0 [] ∧ Below w.heap.size w w' ∧ w.heap.size ≤ B ∧ w.heap.size ≤ R
theorem new_bad {w : World} {z : Int} (h : z < 1 ∨ 64 < z) :
    Calls Try.prog 13 #[.int .i64 z] w fun e w' => e = .returned (.tuple #[.pointer none, .int .i64 1]) ∧ w' = w := by
  rcases h with h | h
  · go_enter Try.func13, Try.ntmps13
    go_wp2
    go_ret2
    exact ⟨rfl, rfl⟩
  · have h1 : ¬ z < 1 := by omega
    go_enter Try.func13, Try.ntmps13
    go_wp2
    go_ret2
    exact ⟨rfl, rfl⟩
theorem new_any {w : World} {z : Int} (h : 1 ≤ z ∧ z ≤ 64) :
    Calls Try.prog 13 #[.int .i64 z] w fun e w' => ∃ B R, e = .returned (.tuple #[.pointer (some ⟨B, 0, none⟩), .int .i64 0]) ∧ NewR z B R w w' := by
  obtain ⟨n, rfl⟩ := Int.eq_ofNat_of_zero_le (a := z) (by omega)
  obtain ⟨w1, hw1⟩ : ∃ w1, w.alloc (.cells (madeCells (Value.int .i64 0).cells (n * 1)) 3) = w1 := ⟨_, rfl⟩
  have hmk := make_ints n (by omega) w
  rw [hw1] at hmk
  have k1 : Below w.heap.size w w1 := by rw [← hw1]; exact (Below.refl _ _).alloc (Nat.le_refl _) _
  have r1 : RRow w1 w.heap.size n (fun _ => 0) := by rw [← hw1]; exact made_row w n
  have s1 : w1.heap.size = w.heap.size + 1 := by rw [← hw1]; exact Array.size_push ..
  obtain ⟨R, hR⟩ : ∃ R, w.heap.size = R := ⟨_, rfl⟩
  rw [hR] at r1 s1 hmk
  have k2 : Below w1.heap.size w1 (w1.alloc (.cells #[.slice (some ⟨R, 0, none⟩) n n, .int .i64 0, .int .i64 0] 63)) := (Below.refl _ _).alloc (Nat.le_refl _) _
  have HF : Hid (NewR (n : Nat) w1.heap.size R w (w1.alloc (.cells #[.slice (some ⟨R, 0, none⟩) n n, .int .i64 0, .int .i64 0] 63))) :=
    ⟨⟨heap_alloc_new w1 _, (r1.same (k2.block R r1.lt)).congr fun p hp => rfl, by simp; omega, by simp, by simp; omega⟩, below_step k1 k2, by omega, by omega⟩
  have h1 : ¬ (n : Int) < 1 := by omega
  have h2 : ¬ (64 : Int) < n := by omega
  clear hw1 k1 r1 s1 k2 hR
  go_enter Try.func13, Try.ntmps13
  go_wp2
  go_ret2
  exact ⟨_, rfl, _, HF.out⟩
/-- All, filled in one by one -/
structure AllI (w : World) (A m k : Nat) (l : List Int) (u : World) : Prop where
  r : RRow u A m (fun p => if p < k then l.getD p 0 else 0)
  lo : Below w.heap.size w u
  a : w.heap.size ≤ A
theorem AllI.next {w u : World} {A m k : Nat} {l : List Int} (h : AllI w A m k l u) (hk : k < m) {z : Int} (hz : l.getD k 0 = z) : AllI w A m (k + 1) l ((u.setCell ⟨A, k, none⟩ (.int .i64 z)).drew.drew) := by
  have hp := h.r.put hk z
  refine ⟨(hp.congr fun p hp => ?_).same rfl, ⟨h.lo.os, h.lo.tape, h.lo.output, ?_, fun b hb => ?_⟩, h.a⟩
  · by_cases e : p = k
    · subst e; rw [if_pos rfl, if_pos (by omega), hz]
    · rw [if_neg e]
      by_cases h2 : p < k
      · rw [if_pos h2, if_pos (by omega)]
      · rw [if_neg h2, if_neg (by omega)]
  · have := h.lo.size
    show _ ≤ (u.setCell ⟨A, k, none⟩ (.int .i64 z)).heap.size
    simp only [World.setCell, Array.size_modify]
    exact this
  · have ha := h.a
    exact (Below.heap_setCell u ⟨A, k, none⟩ _ b (by show b ≠ A; omega)).trans (h.lo.block b hb)
theorem row_own {u : World} {base A m : Nat} {l : List Int} (h : RRow u A m (fun p => if p < m then l.getD p 0 else 0)) (hb : base ≤ A) (hl : l.length = m) (hm : m ≤ 64) : u.ownsRow base 3 1 (.slice (some ⟨A, 0, none⟩) m m) m (ints l) := by
  obtain ⟨cur, h1, h2, h3⟩ := h
  refine ⟨by rw [ints_len]; omega, .inr ⟨A, m, cur, rfl, hb, h1, Nat.le_refl _, by unfold maxLen; omega, by omega, ?_⟩⟩
  have e : cur.toList = ints l := by
    apply List.ext_getElem?
    intro k
    rw [Array.getElem?_toList]
    by_cases hk : k < m
    · rw [h3 k hk]
      show some (Value.int .i64 (if k < m then l.getD k 0 else 0)) = _
      rw [if_pos hk]
      have : k < l.length := by omega
      simp [ints, this]
    · rw [Array.getElem?_eq_none (by omega), List.getElem?_eq_none (by rw [ints_len]; omega)]
  rw [e, List.take_of_length_le (by rw [ints_len]; omega)]
set_option maxRecDepth 8000 in
theorem all_any {w : World} {B R n f : Nat} {l : List Int} (h : RgAt w B R n f l) :
    Calls Try.prog 18 #[.pointer (some ⟨B, 0, none⟩)] w fun e w' => ∃ A, e = .returned (.slice (some ⟨A, 0, none⟩) l.length l.length) ∧ w'.ownsRow w.heap.size 3 1 (.slice (some ⟨A, 0, none⟩) l.length l.length) l.length (ints l) ∧ Below w.heap.size w w' := by
  obtain ⟨m, hm⟩ : ∃ m, l.length = m := ⟨_, rfl⟩
  have hmn : m ≤ n := by rw [← hm]; exact h.l
  have hm64 : m ≤ 64 := by have := h.n; omega
  obtain ⟨w1, hw1⟩ : ∃ w1, w.alloc (.cells (madeCells (Value.int .i64 0).cells (m * 1)) 3) = w1 := ⟨_, rfl⟩
  have hmk := make_ints m (by omega) w
  rw [hw1] at hmk
  have k1 : Below w.heap.size w w1 := by rw [← hw1]; exact (Below.refl _ _).alloc (Nat.le_refl _) _
  have r1 : RRow w1 w.heap.size m (fun _ => 0) := by rw [← hw1]; exact made_row w m
  obtain ⟨A, hA⟩ : ∃ A, w.heap.size = A := ⟨_, rfl⟩
  have HL : Hid (l.length = m) := hm
  have HA : Hid (w.heap.size = A) := hA
  rw [hA] at r1 hmk
  rw [hm]
  have H0 : Hid (AllI w A m 0 l w1) := ⟨r1, k1, Nat.le_of_eq hA⟩
  have HH : Hid (RgAt w B R n f l) := h
  obtain ⟨c0, c1, c2⟩ := h.b.cells
  rw [hm] at c2
  clear h hm hw1 k1 r1 hA
  go_enter Try.func18, Try.ntmps18
  go_wp2_with fail
  go_loopw [12] (fun i u => ∃ k : Nat, i = .int .i64 (k : Nat) ∧ k ≤ m ∧ Hid (AllI w A m k l u)) (fun i _ => m - (Go.RowKit.intOf i).toNat)
  case atStart => exact ⟨0, rfl, Nat.zero_le _, H0⟩
  case round =>
    obtain ⟨k, rfl, hk, HI⟩ := hrel
    clear H0 hmk
    by_cases hlt : k < m
    · have l1 : (k : Int) < (m : Int) := by omega
      have hr := HH.out.later HI.out.lo
      obtain ⟨d0, d1, d2⟩ := hr.b.cells
      obtain ⟨p, hp⟩ : ∃ p, (f + k) % n = p := ⟨_, rfl⟩
      have hpn : p < n := by rw [← hp]; exact place_lt hr.f
      have HPL : Hid (∀ u, RBox u B R n f m → Calls Try.prog 25 #[.pointer (some ⟨B, 0, none⟩), .int .i64 (k : Nat)] u fun e w' => e = .returned (.int .i64 (p : Nat)) ∧ w' = u.drew) := fun u hu => by rw [← hp]; exact place_any hu HH.out.f HH.out.n k (by omega)
      obtain ⟨z, hz⟩ : ∃ z, l.getD k 0 = z := ⟨_, rfl⟩
      have d3 := hr.r.cell hpn
      rw [← hp, rd_at hr.f hr.l (by rw [HL.out]; exact hlt), hp] at d3
      rw [show l[k]'(by rw [HL.out]; exact hlt) = z by rw [← hz, List.getD_eq_getElem?_getD, List.getElem?_eq_getElem (by rw [HL.out]; exact hlt)]; rfl] at d3
      have d4 := HI.out.r.cell hlt
      have q4 := HI.out.r.frozen k
      have HN : Hid (AllI w A m (k + 1) l _) := HI.out.next hlt hz
      have hb1 := hr.b
      rw [HL.out] at hb1
      have HB1 : Hid (RBox _ B R n f m) := hb1.same (u := World.drew _) rfl
      clear hr hp hz HI hb1
      go_upto_region 5 with fail
      go_region_with (go_at_call 25; refine (HPL.out _ HB1.out).mono ?_; rintro e u ⟨rfl, rfl⟩)
      all_goals
        go_wp2_with fail
        go_roundw
        case rel => exact ⟨k + 1, by go_num, by omega, HN⟩
        case measure => simp [Go.RowKit.intOf]; omega
    · have l1 : ¬ (k : Int) < (m : Int) := by omega
      obtain rfl : k = m := by omega
      go_wp2_with fail
      go_ret
      exact ⟨_, rfl, row_own HI.out.r HI.out.a HL.out hm64, HI.out.lo⟩
end Go.Proofs.Ytclcpblpmfijiaa
