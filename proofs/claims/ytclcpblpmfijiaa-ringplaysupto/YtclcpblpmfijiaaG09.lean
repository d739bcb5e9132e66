/- heronlaw18.RingRound answers true. -/
import Derived.Test.YtclcpblpmfijiaaG08
namespace Go.Proofs.Ytclcpblpmfijiaa
open Go.RowKit Go.Maps Rg
attribute [local go_sem ↓] Go.wp_at_zero Go.wp_at_succ

/-- numbers from i on, n of them -/
def upL (i n : Nat) : List Int := (List.range n).map fun j => ((i + j : Nat) : Int)
theorem upL_len (i n : Nat) : (upL i n).length = n := by simp [upL]
theorem upL_snoc (i n : Nat) : upL i n ++ [((i + n : Nat) : Int)] = upL i (n + 1) := by simp [upL, List.range_succ]
theorem upL_cons (i n : Nat) : upL i (n + 1) = (i : Int) :: upL (i + 1) n := by
  unfold upL
  rw [List.range_succ_eq_map]
  simp only [List.map_cons, Nat.add_zero, List.map_map, List.cons.injEq, true_and]
  apply List.map_congr_left
  intro j _
  show (((i + (j + 1) : Nat)) : Int) = ((i + 1 + j : Nat) : Int)
  omega
/-- A RING OF THE LAW's OWN -/
def RI (w : World) (B R n : Nat) (l : List Int) (u : World) : Prop := ∃ f, RgAt u B R n f l ∧ Below w.heap.size w u ∧ w.heap.size ≤ B ∧ w.heap.size ≤ R
section
variable {w u v : World} {B R n f : Nat} {l : List Int}
theorem below_frp {Q : Nat → Prop} (h : Below w.heap.size w u) (h2 : FrP Q u v) (hq : ∀ k, Q k → w.heap.size ≤ k) : Below w.heap.size w v :=
  ⟨h2.os.trans h.os, h2.tape.trans h.tape, h2.output.trans h.output, Nat.le_trans h.size h2.size, fun k hk => (h2.block k (Nat.lt_of_lt_of_le hk h.size) (fun e => by have := hq k e; omega)).trans (h.block k hk)⟩
theorem RI.later (h : RI w B R n l u) (hb : Below u.heap.size u v) : RI w B R n l v := by
  obtain ⟨f, h1, h2, h3, h4⟩ := h
  exact ⟨f, h1.later hb, below_step h2 hb, h3, h4⟩
theorem RI.to (h : RI w B R n l u) {f' : Nat} {l' : List Int} (h2 : RTo B R n f' l' u v) : RI w B R n l' v := by
  obtain ⟨f, h1, hb, h3, h4⟩ := h
  exact ⟨f', h2.1, below_frp hb h2.2 (fun k e => by rcases e with e | e <;> omega), h3, h4⟩
theorem RI.full (h : RI w B R n l u) {b : Bool} (hb : decide (l.length = n) = b) : Calls Try.prog 14 #[.pointer (some ⟨B, 0, none⟩)] u fun e w' => e = .returned (.bool b) ∧ RI w B R n l w' := by
  obtain ⟨f, h1, _⟩ := id h
  exact (full_any h1.b).mono fun e w' x => ⟨by rw [x.1, hb], h.later (by rw [x.2]; exact drew_below u 1)⟩
theorem RI.len (h : RI w B R n l u) {m : Nat} (hm : l.length = m) : Calls Try.prog 16 #[.pointer (some ⟨B, 0, none⟩)] u fun e w' => e = .returned (.int .i64 (m : Nat)) ∧ RI w B R n l w' := by
  obtain ⟨f, h1, _⟩ := id h
  exact (len_any h1.b).mono fun e w' x => ⟨by rw [x.1, hm], by rw [x.2]; exact h⟩
theorem RI.push (h : RI w B R n l u) (hl : l.length ≠ n) (x : Int) {l' : List Int} (e' : l ++ [x] = l') : Calls Try.prog 15 #[.pointer (some ⟨B, 0, none⟩), .int .i64 x] u fun e w' => e = .returned (.int .i64 0) ∧ RI w B R n l' w' := by
  obtain ⟨f, h1, _⟩ := id h
  refine (push_any h1 x).mono fun e w' y => ?_
  rw [if_neg hl, if_neg hl, e'] at y
  exact ⟨y.1, h.to y.2⟩
theorem RI.push_full (h : RI w B R n l u) (hl : l.length = n) (x : Int) : Calls Try.prog 15 #[.pointer (some ⟨B, 0, none⟩), .int .i64 x] u fun e w' => e = .returned (.int .i64 180) ∧ RI w B R n l w' := by
  obtain ⟨f, h1, _⟩ := id h
  refine (push_any h1 x).mono fun e w' y => ?_
  rw [if_pos hl, if_pos hl] at y
  exact ⟨y.1, h.to y.2⟩
theorem RI.pop {x : Int} {t : List Int} (h : RI w B R n l u) (e' : l = x :: t) : Calls Try.prog 17 #[.pointer (some ⟨B, 0, none⟩)] u fun e w' => e = .returned (.tuple #[.int .i64 x, .bool true]) ∧ RI w B R n t w' := by
  subst e'
  obtain ⟨f, h1, _⟩ := id h
  exact (pop_some h1).mono fun e w' y => ⟨y.1, h.to y.2⟩
theorem RI.pop0 (h : RI w B R n [] u) : Calls Try.prog 17 #[.pointer (some ⟨B, 0, none⟩)] u fun e w' => e = .returned (.tuple #[.int .i64 0, .bool false]) ∧ RI w B R n [] w' := by
  obtain ⟨f, h1, _⟩ := id h
  exact (pop_none h1).mono fun e w' y => ⟨y.1, h.to y.2⟩
theorem RI.all (h : RI w B R n l u) {m : Nat} (hm : l.length = m) : Calls Try.prog 18 #[.pointer (some ⟨B, 0, none⟩)] u fun e w' => ∃ A, e = .returned (.slice (some ⟨A, 0, none⟩) m m) ∧ w'.ownsRow u.heap.size 3 1 (.slice (some ⟨A, 0, none⟩) m m) m (ints l) ∧ RI w B R n l w' := by
  subst hm
  obtain ⟨f, h1, _⟩ := id h
  refine (all_any h1).mono fun e w' ⟨A, y1, y2, y3⟩ => ⟨A, y1, y2, h.later y3⟩
end
theorem new_ri {w : World} {z : Int} {n : Nat} (hz : z = (n : Nat)) (h : 1 ≤ n ∧ n ≤ 64) : Calls Try.prog 13 #[.int .i64 z] w fun e w' => ∃ B R, e = .returned (.tuple #[.pointer (some ⟨B, 0, none⟩), .int .i64 0]) ∧ RI w B R n [] w' := by
  subst hz
  refine (new_any (by omega)).mono fun e w' ⟨B, R, h1, h2⟩ => ⟨B, R, h1, 0, ?_, h2.2.1, h2.2.2.1, h2.2.2.2⟩
  exact h2.1
theorem tmod300 (y : Int) : -300 < y.tmod 300 ∧ y.tmod 300 < 300 := by
  have h1 : y.tmod 300 < 300 := Int.tmod_lt_of_pos y (by omega)
  have h2 := Int.tmod_lt_of_pos (-y) (b := 300) (by omega)
  rw [Int.neg_tmod] at h2
  omega
set_option maxRecDepth 8000 in
set_option maxHeartbeats 1600000 in
theorem round_any {w : World} {z y : Int} (hz : -9223372036854775808 ≤ z ∧ z ≤ 9223372036854775807) : Calls Try.prog 4 #[.int .i64 z, .int .i64 y] w fun e w' => e = .returned (.bool true) ∧ Below w.heap.size w w' := by
  have HN : Hid (∀ n : Nat, 1 ≤ n ∧ n ≤ 64 → Calls Try.prog 13 #[.int .i64 (n : Nat)] w fun e w' => ∃ B R, e = .returned (.tuple #[.pointer (some ⟨B, 0, none⟩), .int .i64 0]) ∧ RI w B R n [] w') := fun n h => new_ri rfl h
  have HW : Hid (z < 1 ∨ 64 < z → Calls Try.prog 13 #[.int .i64 z] w fun e w' => e = .returned (.tuple #[.pointer none, .int .i64 1]) ∧ w' = w) := fun h => new_bad h
  have hj : z < 1 ∨ 64 < z ∨ (1 ≤ z ∧ z ≤ 64) := by omega
  go_enter Try.func4, Try.ntmps4
  rcases hj with h1 | h1 | ⟨h1, h2⟩
  · have HC := HW.out (.inl h1)
    have HC2 : Hid (Calls Try.prog 13 #[.int .i64 1] w fun e w' => ∃ B R, e = .returned (.tuple #[.pointer (some ⟨B, 0, none⟩), .int .i64 0]) ∧ RI w B R 1 [] w') := HN.out 1 ⟨by omega, by omega⟩
    clear HN HW
    go_wp2_with fail
    refine HC.mono ?_
    rintro e w1 ⟨rfl, hw⟩
    rw [hw]
    clear HC hw
    go_upto_region 7 with fail
    go_cut [5, 8, 9] from 36 to 39 (fun v5 v8 v9 wx => ∃ n B R : Nat, v5 = .int .i64 (n : Nat) ∧ 1 ≤ n ∧ n ≤ 64 ∧ v8 = .pointer (some ⟨B, 0, none⟩) ∧ v9 = .int .i64 0 ∧ Hid (RI w B R n (upL 0 0) wx))
    case first =>
      go_wp2_with fail
      refine HC2.out.mono ?_
      rintro e w1 ⟨B, R, rfl, h0⟩
      have H0 : Hid (RI w B R 1 (upL 0 0) w1) := h0
      clear HC2 h0
      go_wp2_with fail
      go_meet
      case rel => exact ⟨1, B, R, rfl, by omega, by omega, rfl, rfl, H0⟩
    case rest =>
    obtain ⟨n, B, R, rfl, hn1, hn64, rfl, rfl, H0⟩ := hcut
    go_wp2_with fail
    go_loopw [10] (fun i u => ∃ k : Nat, i = .int .i64 (k : Nat) ∧ k ≤ n ∧ Hid (RI w B R n (upL 0 k) u)) (fun i _ => n - (Go.RowKit.intOf i).toNat)
    case atStart => exact ⟨0, rfl, Nat.zero_le _, H0⟩
    case round =>
    obtain ⟨i, rfl, hi, HI⟩ := hrel
    clear H0
    by_cases hlt : i < n
    · have l1 : (i : Int) < (n : Int) := by omega
      have HF : Hid (Calls Try.prog 14 #[.pointer (some ⟨B, 0, none⟩)] wr _) := HI.out.full (b := false) (by rw [upL_len]; exact decide_eq_false (by omega))
      clear HI
      go_wp2_with fail
      refine HF.out.mono ?_
      rintro e u1 ⟨rfl, h1⟩
      have HP : Hid (Calls Try.prog 15 #[.pointer (some ⟨B, 0, none⟩), .int .i64 (i : Nat)] u1 _) := h1.push (by rw [upL_len]; omega) (i : Nat) (l' := upL 0 (i + 1)) (by have := upL_snoc 0 i; rw [Nat.zero_add] at this; exact this)
      clear h1 HF
      go_wp2_with fail
      refine HP.out.mono ?_
      rintro e u2 ⟨rfl, h2⟩
      have H2 : Hid (RI w B R n (upL 0 (i + 1)) u2) := h2
      clear h2 HP
      go_wp2_with fail
      go_roundw
      case rel => exact ⟨i + 1, by go_num, by omega, H2⟩
      case measure => simp [Go.RowKit.intOf]; omega
    have l1 : ¬ (i : Int) < (n : Int) := by omega
    obtain rfl : i = n := by omega
    obtain ⟨r, hr⟩ : ∃ r, y.tmod 300 = r := ⟨_, rfl⟩
    have ht := tmod300 y
    rw [hr] at ht
    obtain ⟨k, hk3, hk⟩ : ∃ k : Nat, k < 300 ∧ (r < 0 ∧ r = -(k : Int) ∨ ¬ r < 0 ∧ r = (k : Int)) := by
      by_cases h : r < 0
      · exact ⟨(-r).toNat, by omega, .inl ⟨h, by omega⟩⟩
      · exact ⟨r.toNat, by omega, .inr ⟨h, by omega⟩⟩
    have H0 : Hid (RI w B R i (upL 0 i) wr) := HI.out
    clear HI hlt hi
    rcases hk with ⟨hr0, hrk⟩ | ⟨hr0, hrk⟩
    · have hnk : -r = (k : Int) := by rw [hrk, Int.neg_neg]
      clear hrk
      go_wp2_with fail
      go_loopw [12] (fun v u => ∃ q : Nat, v = .int .i64 (q : Nat) ∧ q ≤ k ∧ Hid (RI w B R i (upL q i) u)) (fun v _ => k - (Go.RowKit.intOf v).toNat)
      case atStart => exact ⟨0, rfl, Nat.zero_le _, H0⟩
      case round =>
      obtain ⟨q, rfl, hq, HI⟩ := hrel
      clear H0
      by_cases hlt : q < k
      · have l1 : (q : Int) < (k : Int) := by omega
        have HF : Hid (Calls Try.prog 14 #[.pointer (some ⟨B, 0, none⟩)] wr _) := HI.out.full (b := true) (by rw [upL_len]; exact decide_eq_true rfl)
        clear HI
        go_wp2_with fail
        refine HF.out.mono ?_
        rintro e u1 ⟨rfl, h1⟩
        have HP : Hid (Calls Try.prog 15 #[.pointer (some ⟨B, 0, none⟩), .int .i64 (-1)] u1 _) := h1.push_full (by rw [upL_len]) (-1)
        clear h1 HF
        go_wp2_with fail
        refine HP.out.mono ?_
        rintro e u2 ⟨rfl, h1⟩
        have HF : Hid (Calls Try.prog 16 #[.pointer (some ⟨B, 0, none⟩)] u2 _) := h1.len (m := i) (by rw [upL_len])
        clear h1 HP
        go_wp2_with fail
        refine HF.out.mono ?_
        rintro e u3 ⟨rfl, h1⟩
        have HP : Hid (Calls Try.prog 17 #[.pointer (some ⟨B, 0, none⟩)] u3 _) := h1.pop (x := (q : Int)) (t := upL (q + 1) (i - 1)) (by rw [show i = i - 1 + 1 by omega]; exact upL_cons q (i - 1))
        clear h1 HF
        go_wp2_with fail
        refine HP.out.mono ?_
        rintro e u4 ⟨rfl, h1⟩
        have HF : Hid (Calls Try.prog 14 #[.pointer (some ⟨B, 0, none⟩)] u4 _) := h1.full (b := false) (by rw [upL_len]; exact decide_eq_false (by omega))
        clear h1 HP
        go_wp2_with fail
        refine HF.out.mono ?_
        rintro e u5 ⟨rfl, h1⟩
        have HP : Hid (Calls Try.prog 15 #[.pointer (some ⟨B, 0, none⟩), .int .i64 ((i : Int) + (q : Int))] u5 _) := h1.push (by rw [upL_len]; omega) ((i : Int) + (q : Int)) (l' := upL (q + 1) i) (by have h9 := upL_snoc (q + 1) (i - 1); rw [show ((q + 1 + (i - 1) : Nat) : Int) = (i : Int) + (q : Int) by omega, show i - 1 + 1 = i by omega] at h9; exact h9)
        clear h1 HF
        go_wp2_with fail
        refine HP.out.mono ?_
        rintro e u6 ⟨rfl, h1⟩
        have H2 : Hid (RI w B R i (upL (q + 1) i) u6) := h1
        clear h1 HP
        go_wp2_with fail
        go_roundw
        case rel => exact ⟨q + 1, by go_num, by omega, H2⟩
        case measure => simp [Go.RowKit.intOf]; omega
      have l1 : ¬ (q : Int) < (k : Int) := by omega
      obtain rfl : q = k := by omega
      have HF : Hid (Calls Try.prog 18 #[.pointer (some ⟨B, 0, none⟩)] wr _) := HI.out.all (m := i) (by rw [upL_len])
      clear HI hlt hq l1
      go_wp2_with fail
      refine HF.out.mono ?_
      rintro e u6 ⟨A, rfl, ho, h1⟩
      have H3 : Hid (Below w.heap.size w u6 ∧ ∀ j, j < i → u6.cell? ⟨A, j, none⟩ = some (.int .i64 ((q + j : Nat) : Nat))) := ⟨by obtain ⟨_, _, hb, _⟩ := h1; exact hb, fun j hj => by
        rw [ho.cellAt (g := A) j (by omega)]
        simp [ints, upL, hj]⟩
      clear HF ho h1
      go_wp2_with fail
      go_loopw [112] (fun v u => ∃ j : Nat, v = .int .i64 (j : Nat) ∧ j ≤ i ∧ Hid (Below w.heap.size w u ∧ ∀ j, j < i → u.cell? ⟨A, j, none⟩ = some (.int .i64 ((q + j : Nat) : Nat)))) (fun v _ => i - (Go.RowKit.intOf v).toNat)
      case atStart => exact ⟨0, rfl, Nat.zero_le _, H3⟩
      case round =>
      obtain ⟨j, rfl, hj, HI⟩ := hrel
      clear H3
      by_cases hlt : j < i
      · have l1 : (j : Int) < (i : Int) := by omega
        have c0 := HI.out.2 j hlt
        rw [show ((q + j : Nat) : Int) = (q : Int) + (j : Int) by omega] at c0
        go_wp2_with fail
        go_roundw
        case rel => exact ⟨j + 1, by go_num, by omega, HI⟩
        case measure => simp [Go.RowKit.intOf]; omega
      have l1 : ¬ (j : Int) < (i : Int) := by omega
      go_wp2_with fail
      go_ret
      exact ⟨rfl, HI.out.1⟩
    · subst hrk
      go_wp2_with fail
      go_loopw [12] (fun v u => ∃ q : Nat, v = .int .i64 (q : Nat) ∧ q ≤ k ∧ Hid (RI w B R i (upL q i) u)) (fun v _ => k - (Go.RowKit.intOf v).toNat)
      case atStart => exact ⟨0, rfl, Nat.zero_le _, H0⟩
      case round =>
      obtain ⟨q, rfl, hq, HI⟩ := hrel
      clear H0
      by_cases hlt : q < k
      · have l1 : (q : Int) < (k : Int) := by omega
        have HF : Hid (Calls Try.prog 14 #[.pointer (some ⟨B, 0, none⟩)] wr _) := HI.out.full (b := true) (by rw [upL_len]; exact decide_eq_true rfl)
        clear HI
        go_wp2_with fail
        refine HF.out.mono ?_
        rintro e u1 ⟨rfl, h1⟩
        have HP : Hid (Calls Try.prog 15 #[.pointer (some ⟨B, 0, none⟩), .int .i64 (-1)] u1 _) := h1.push_full (by rw [upL_len]) (-1)
        clear h1 HF
        go_wp2_with fail
        refine HP.out.mono ?_
        rintro e u2 ⟨rfl, h1⟩
        have HF : Hid (Calls Try.prog 16 #[.pointer (some ⟨B, 0, none⟩)] u2 _) := h1.len (m := i) (by rw [upL_len])
        clear h1 HP
        go_wp2_with fail
        refine HF.out.mono ?_
        rintro e u3 ⟨rfl, h1⟩
        have HP : Hid (Calls Try.prog 17 #[.pointer (some ⟨B, 0, none⟩)] u3 _) := h1.pop (x := (q : Int)) (t := upL (q + 1) (i - 1)) (by rw [show i = i - 1 + 1 by omega]; exact upL_cons q (i - 1))
        clear h1 HF
        go_wp2_with fail
        refine HP.out.mono ?_
        rintro e u4 ⟨rfl, h1⟩
        have HF : Hid (Calls Try.prog 14 #[.pointer (some ⟨B, 0, none⟩)] u4 _) := h1.full (b := false) (by rw [upL_len]; exact decide_eq_false (by omega))
        clear h1 HP
        go_wp2_with fail
        refine HF.out.mono ?_
        rintro e u5 ⟨rfl, h1⟩
        have HP : Hid (Calls Try.prog 15 #[.pointer (some ⟨B, 0, none⟩), .int .i64 ((i : Int) + (q : Int))] u5 _) := h1.push (by rw [upL_len]; omega) ((i : Int) + (q : Int)) (l' := upL (q + 1) i) (by have h9 := upL_snoc (q + 1) (i - 1); rw [show ((q + 1 + (i - 1) : Nat) : Int) = (i : Int) + (q : Int) by omega, show i - 1 + 1 = i by omega] at h9; exact h9)
        clear h1 HF
        go_wp2_with fail
        refine HP.out.mono ?_
        rintro e u6 ⟨rfl, h1⟩
        have H2 : Hid (RI w B R i (upL (q + 1) i) u6) := h1
        clear h1 HP
        go_wp2_with fail
        go_roundw
        case rel => exact ⟨q + 1, by go_num, by omega, H2⟩
        case measure => simp [Go.RowKit.intOf]; omega
      have l1 : ¬ (q : Int) < (k : Int) := by omega
      obtain rfl : q = k := by omega
      have HF : Hid (Calls Try.prog 18 #[.pointer (some ⟨B, 0, none⟩)] wr _) := HI.out.all (m := i) (by rw [upL_len])
      clear HI hlt hq l1
      go_wp2_with fail
      refine HF.out.mono ?_
      rintro e u6 ⟨A, rfl, ho, h1⟩
      have H3 : Hid (Below w.heap.size w u6 ∧ ∀ j, j < i → u6.cell? ⟨A, j, none⟩ = some (.int .i64 ((q + j : Nat) : Nat))) := ⟨by obtain ⟨_, _, hb, _⟩ := h1; exact hb, fun j hj => by
        rw [ho.cellAt (g := A) j (by omega)]
        simp [ints, upL, hj]⟩
      clear HF ho h1
      go_wp2_with fail
      go_loopw [112] (fun v u => ∃ j : Nat, v = .int .i64 (j : Nat) ∧ j ≤ i ∧ Hid (Below w.heap.size w u ∧ ∀ j, j < i → u.cell? ⟨A, j, none⟩ = some (.int .i64 ((q + j : Nat) : Nat)))) (fun v _ => i - (Go.RowKit.intOf v).toNat)
      case atStart => exact ⟨0, rfl, Nat.zero_le _, H3⟩
      case round =>
      obtain ⟨j, rfl, hj, HI⟩ := hrel
      clear H3
      by_cases hlt : j < i
      · have l1 : (j : Int) < (i : Int) := by omega
        have c0 := HI.out.2 j hlt
        rw [show ((q + j : Nat) : Int) = (q : Int) + (j : Int) by omega] at c0
        go_wp2_with fail
        go_roundw
        case rel => exact ⟨j + 1, by go_num, by omega, HI⟩
        case measure => simp [Go.RowKit.intOf]; omega
      have l1 : ¬ (j : Int) < (i : Int) := by omega
      go_wp2_with fail
      go_ret
      exact ⟨rfl, HI.out.1⟩
  · have h0 : ¬ z < 1 := by omega
    have HC := HW.out (.inr h1)
    have HC2 : Hid (Calls Try.prog 13 #[.int .i64 1] w fun e w' => ∃ B R, e = .returned (.tuple #[.pointer (some ⟨B, 0, none⟩), .int .i64 0]) ∧ RI w B R 1 [] w') := HN.out 1 ⟨by omega, by omega⟩
    clear HN HW
    go_wp2_with fail
    refine HC.mono ?_
    rintro e w1 ⟨rfl, hw⟩
    rw [hw]
    clear HC hw
    go_upto_region 7 with fail
    go_cut [5, 8, 9] from 36 to 39 (fun v5 v8 v9 wx => ∃ n B R : Nat, v5 = .int .i64 (n : Nat) ∧ 1 ≤ n ∧ n ≤ 64 ∧ v8 = .pointer (some ⟨B, 0, none⟩) ∧ v9 = .int .i64 0 ∧ Hid (RI w B R n (upL 0 0) wx))
    case first =>
      go_wp2_with fail
      refine HC2.out.mono ?_
      rintro e w1 ⟨B, R, rfl, h0⟩
      have H0 : Hid (RI w B R 1 (upL 0 0) w1) := h0
      clear HC2 h0
      go_wp2_with fail
      go_meet
      case rel => exact ⟨1, B, R, rfl, by omega, by omega, rfl, rfl, H0⟩
    case rest =>
    obtain ⟨n, B, R, rfl, hn1, hn64, rfl, rfl, H0⟩ := hcut
    go_wp2_with fail
    go_loopw [10] (fun i u => ∃ k : Nat, i = .int .i64 (k : Nat) ∧ k ≤ n ∧ Hid (RI w B R n (upL 0 k) u)) (fun i _ => n - (Go.RowKit.intOf i).toNat)
    case atStart => exact ⟨0, rfl, Nat.zero_le _, H0⟩
    case round =>
    obtain ⟨i, rfl, hi, HI⟩ := hrel
    clear H0
    by_cases hlt : i < n
    · have l1 : (i : Int) < (n : Int) := by omega
      have HF : Hid (Calls Try.prog 14 #[.pointer (some ⟨B, 0, none⟩)] wr _) := HI.out.full (b := false) (by rw [upL_len]; exact decide_eq_false (by omega))
      clear HI
      go_wp2_with fail
      refine HF.out.mono ?_
      rintro e u1 ⟨rfl, h1⟩
      have HP : Hid (Calls Try.prog 15 #[.pointer (some ⟨B, 0, none⟩), .int .i64 (i : Nat)] u1 _) := h1.push (by rw [upL_len]; omega) (i : Nat) (l' := upL 0 (i + 1)) (by have := upL_snoc 0 i; rw [Nat.zero_add] at this; exact this)
      clear h1 HF
      go_wp2_with fail
      refine HP.out.mono ?_
      rintro e u2 ⟨rfl, h2⟩
      have H2 : Hid (RI w B R n (upL 0 (i + 1)) u2) := h2
      clear h2 HP
      go_wp2_with fail
      go_roundw
      case rel => exact ⟨i + 1, by go_num, by omega, H2⟩
      case measure => simp [Go.RowKit.intOf]; omega
    have l1 : ¬ (i : Int) < (n : Int) := by omega
    obtain rfl : i = n := by omega
    obtain ⟨r, hr⟩ : ∃ r, y.tmod 300 = r := ⟨_, rfl⟩
    have ht := tmod300 y
    rw [hr] at ht
    obtain ⟨k, hk3, hk⟩ : ∃ k : Nat, k < 300 ∧ (r < 0 ∧ r = -(k : Int) ∨ ¬ r < 0 ∧ r = (k : Int)) := by
      by_cases h : r < 0
      · exact ⟨(-r).toNat, by omega, .inl ⟨h, by omega⟩⟩
      · exact ⟨r.toNat, by omega, .inr ⟨h, by omega⟩⟩
    have H0 : Hid (RI w B R i (upL 0 i) wr) := HI.out
    clear HI hlt hi
    rcases hk with ⟨hr0, hrk⟩ | ⟨hr0, hrk⟩
    · have hnk : -r = (k : Int) := by rw [hrk, Int.neg_neg]
      clear hrk
      go_wp2_with fail
      go_loopw [12] (fun v u => ∃ q : Nat, v = .int .i64 (q : Nat) ∧ q ≤ k ∧ Hid (RI w B R i (upL q i) u)) (fun v _ => k - (Go.RowKit.intOf v).toNat)
      case atStart => exact ⟨0, rfl, Nat.zero_le _, H0⟩
      case round =>
      obtain ⟨q, rfl, hq, HI⟩ := hrel
      clear H0
      by_cases hlt : q < k
      · have l1 : (q : Int) < (k : Int) := by omega
        have HF : Hid (Calls Try.prog 14 #[.pointer (some ⟨B, 0, none⟩)] wr _) := HI.out.full (b := true) (by rw [upL_len]; exact decide_eq_true rfl)
        clear HI
        go_wp2_with fail
        refine HF.out.mono ?_
        rintro e u1 ⟨rfl, h1⟩
        have HP : Hid (Calls Try.prog 15 #[.pointer (some ⟨B, 0, none⟩), .int .i64 (-1)] u1 _) := h1.push_full (by rw [upL_len]) (-1)
        clear h1 HF
        go_wp2_with fail
        refine HP.out.mono ?_
        rintro e u2 ⟨rfl, h1⟩
        have HF : Hid (Calls Try.prog 16 #[.pointer (some ⟨B, 0, none⟩)] u2 _) := h1.len (m := i) (by rw [upL_len])
        clear h1 HP
        go_wp2_with fail
        refine HF.out.mono ?_
        rintro e u3 ⟨rfl, h1⟩
        have HP : Hid (Calls Try.prog 17 #[.pointer (some ⟨B, 0, none⟩)] u3 _) := h1.pop (x := (q : Int)) (t := upL (q + 1) (i - 1)) (by rw [show i = i - 1 + 1 by omega]; exact upL_cons q (i - 1))
        clear h1 HF
        go_wp2_with fail
        refine HP.out.mono ?_
        rintro e u4 ⟨rfl, h1⟩
        have HF : Hid (Calls Try.prog 14 #[.pointer (some ⟨B, 0, none⟩)] u4 _) := h1.full (b := false) (by rw [upL_len]; exact decide_eq_false (by omega))
        clear h1 HP
        go_wp2_with fail
        refine HF.out.mono ?_
        rintro e u5 ⟨rfl, h1⟩
        have HP : Hid (Calls Try.prog 15 #[.pointer (some ⟨B, 0, none⟩), .int .i64 ((i : Int) + (q : Int))] u5 _) := h1.push (by rw [upL_len]; omega) ((i : Int) + (q : Int)) (l' := upL (q + 1) i) (by have h9 := upL_snoc (q + 1) (i - 1); rw [show ((q + 1 + (i - 1) : Nat) : Int) = (i : Int) + (q : Int) by omega, show i - 1 + 1 = i by omega] at h9; exact h9)
        clear h1 HF
        go_wp2_with fail
        refine HP.out.mono ?_
        rintro e u6 ⟨rfl, h1⟩
        have H2 : Hid (RI w B R i (upL (q + 1) i) u6) := h1
        clear h1 HP
        go_wp2_with fail
        go_roundw
        case rel => exact ⟨q + 1, by go_num, by omega, H2⟩
        case measure => simp [Go.RowKit.intOf]; omega
      have l1 : ¬ (q : Int) < (k : Int) := by omega
      obtain rfl : q = k := by omega
      have HF : Hid (Calls Try.prog 18 #[.pointer (some ⟨B, 0, none⟩)] wr _) := HI.out.all (m := i) (by rw [upL_len])
      clear HI hlt hq l1
      go_wp2_with fail
      refine HF.out.mono ?_
      rintro e u6 ⟨A, rfl, ho, h1⟩
      have H3 : Hid (Below w.heap.size w u6 ∧ ∀ j, j < i → u6.cell? ⟨A, j, none⟩ = some (.int .i64 ((q + j : Nat) : Nat))) := ⟨by obtain ⟨_, _, hb, _⟩ := h1; exact hb, fun j hj => by
        rw [ho.cellAt (g := A) j (by omega)]
        simp [ints, upL, hj]⟩
      clear HF ho h1
      go_wp2_with fail
      go_loopw [112] (fun v u => ∃ j : Nat, v = .int .i64 (j : Nat) ∧ j ≤ i ∧ Hid (Below w.heap.size w u ∧ ∀ j, j < i → u.cell? ⟨A, j, none⟩ = some (.int .i64 ((q + j : Nat) : Nat)))) (fun v _ => i - (Go.RowKit.intOf v).toNat)
      case atStart => exact ⟨0, rfl, Nat.zero_le _, H3⟩
      case round =>
      obtain ⟨j, rfl, hj, HI⟩ := hrel
      clear H3
      by_cases hlt : j < i
      · have l1 : (j : Int) < (i : Int) := by omega
        have c0 := HI.out.2 j hlt
        rw [show ((q + j : Nat) : Int) = (q : Int) + (j : Int) by omega] at c0
        go_wp2_with fail
        go_roundw
        case rel => exact ⟨j + 1, by go_num, by omega, HI⟩
        case measure => simp [Go.RowKit.intOf]; omega
      have l1 : ¬ (j : Int) < (i : Int) := by omega
      go_wp2_with fail
      go_ret
      exact ⟨rfl, HI.out.1⟩
    · subst hrk
      go_wp2_with fail
      go_loopw [12] (fun v u => ∃ q : Nat, v = .int .i64 (q : Nat) ∧ q ≤ k ∧ Hid (RI w B R i (upL q i) u)) (fun v _ => k - (Go.RowKit.intOf v).toNat)
      case atStart => exact ⟨0, rfl, Nat.zero_le _, H0⟩
      case round =>
      obtain ⟨q, rfl, hq, HI⟩ := hrel
      clear H0
      by_cases hlt : q < k
      · have l1 : (q : Int) < (k : Int) := by omega
        have HF : Hid (Calls Try.prog 14 #[.pointer (some ⟨B, 0, none⟩)] wr _) := HI.out.full (b := true) (by rw [upL_len]; exact decide_eq_true rfl)
        clear HI
        go_wp2_with fail
        refine HF.out.mono ?_
        rintro e u1 ⟨rfl, h1⟩
        have HP : Hid (Calls Try.prog 15 #[.pointer (some ⟨B, 0, none⟩), .int .i64 (-1)] u1 _) := h1.push_full (by rw [upL_len]) (-1)
        clear h1 HF
        go_wp2_with fail
        refine HP.out.mono ?_
        rintro e u2 ⟨rfl, h1⟩
        have HF : Hid (Calls Try.prog 16 #[.pointer (some ⟨B, 0, none⟩)] u2 _) := h1.len (m := i) (by rw [upL_len])
        clear h1 HP
        go_wp2_with fail
        refine HF.out.mono ?_
        rintro e u3 ⟨rfl, h1⟩
        have HP : Hid (Calls Try.prog 17 #[.pointer (some ⟨B, 0, none⟩)] u3 _) := h1.pop (x := (q : Int)) (t := upL (q + 1) (i - 1)) (by rw [show i = i - 1 + 1 by omega]; exact upL_cons q (i - 1))
        clear h1 HF
        go_wp2_with fail
        refine HP.out.mono ?_
        rintro e u4 ⟨rfl, h1⟩
        have HF : Hid (Calls Try.prog 14 #[.pointer (some ⟨B, 0, none⟩)] u4 _) := h1.full (b := false) (by rw [upL_len]; exact decide_eq_false (by omega))
        clear h1 HP
        go_wp2_with fail
        refine HF.out.mono ?_
        rintro e u5 ⟨rfl, h1⟩
        have HP : Hid (Calls Try.prog 15 #[.pointer (some ⟨B, 0, none⟩), .int .i64 ((i : Int) + (q : Int))] u5 _) := h1.push (by rw [upL_len]; omega) ((i : Int) + (q : Int)) (l' := upL (q + 1) i) (by have h9 := upL_snoc (q + 1) (i - 1); rw [show ((q + 1 + (i - 1) : Nat) : Int) = (i : Int) + (q : Int) by omega, show i - 1 + 1 = i by omega] at h9; exact h9)
        clear h1 HF
        go_wp2_with fail
        refine HP.out.mono ?_
        rintro e u6 ⟨rfl, h1⟩
        have H2 : Hid (RI w B R i (upL (q + 1) i) u6) := h1
        clear h1 HP
        go_wp2_with fail
        go_roundw
        case rel => exact ⟨q + 1, by go_num, by omega, H2⟩
        case measure => simp [Go.RowKit.intOf]; omega
      have l1 : ¬ (q : Int) < (k : Int) := by omega
      obtain rfl : q = k := by omega
      have HF : Hid (Calls Try.prog 18 #[.pointer (some ⟨B, 0, none⟩)] wr _) := HI.out.all (m := i) (by rw [upL_len])
      clear HI hlt hq l1
      go_wp2_with fail
      refine HF.out.mono ?_
      rintro e u6 ⟨A, rfl, ho, h1⟩
      have H3 : Hid (Below w.heap.size w u6 ∧ ∀ j, j < i → u6.cell? ⟨A, j, none⟩ = some (.int .i64 ((q + j : Nat) : Nat))) := ⟨by obtain ⟨_, _, hb, _⟩ := h1; exact hb, fun j hj => by
        rw [ho.cellAt (g := A) j (by omega)]
        simp [ints, upL, hj]⟩
      clear HF ho h1
      go_wp2_with fail
      go_loopw [112] (fun v u => ∃ j : Nat, v = .int .i64 (j : Nat) ∧ j ≤ i ∧ Hid (Below w.heap.size w u ∧ ∀ j, j < i → u.cell? ⟨A, j, none⟩ = some (.int .i64 ((q + j : Nat) : Nat)))) (fun v _ => i - (Go.RowKit.intOf v).toNat)
      case atStart => exact ⟨0, rfl, Nat.zero_le _, H3⟩
      case round =>
      obtain ⟨j, rfl, hj, HI⟩ := hrel
      clear H3
      by_cases hlt : j < i
      · have l1 : (j : Int) < (i : Int) := by omega
        have c0 := HI.out.2 j hlt
        rw [show ((q + j : Nat) : Int) = (q : Int) + (j : Int) by omega] at c0
        go_wp2_with fail
        go_roundw
        case rel => exact ⟨j + 1, by go_num, by omega, HI⟩
        case measure => simp [Go.RowKit.intOf]; omega
      have l1 : ¬ (j : Int) < (i : Int) := by omega
      go_wp2_with fail
      go_ret
      exact ⟨rfl, HI.out.1⟩
  · obtain ⟨n, rfl⟩ := Int.eq_ofNat_of_zero_le (a := z) (by omega)
    have g1 : ¬ (n : Int) < 1 := by omega
    have g2 : ¬ (64 : Int) < (n : Int) := by omega
    have HC2 : Hid (Calls Try.prog 13 #[.int .i64 (n : Nat)] w fun e w' => ∃ B R, e = .returned (.tuple #[.pointer (some ⟨B, 0, none⟩), .int .i64 0]) ∧ RI w B R n [] w') := HN.out n ⟨by omega, by omega⟩
    clear HN HW
    go_upto_region 7 with fail
    go_cut [5, 8, 9] from 36 to 39 (fun v5 v8 v9 wx => ∃ n B R : Nat, v5 = .int .i64 (n : Nat) ∧ 1 ≤ n ∧ n ≤ 64 ∧ v8 = .pointer (some ⟨B, 0, none⟩) ∧ v9 = .int .i64 0 ∧ Hid (RI w B R n (upL 0 0) wx))
    case first =>
      go_wp2_with fail
      refine HC2.out.mono ?_
      rintro e w1 ⟨B, R, rfl, h0⟩
      have H0 : Hid (RI w B R n (upL 0 0) w1) := h0
      clear HC2 h0
      go_wp2_with fail
      go_meet
      case rel => exact ⟨n, B, R, rfl, by omega, by omega, rfl, rfl, H0⟩
    case rest =>
    obtain ⟨n, B, R, rfl, hn1, hn64, rfl, rfl, H0⟩ := hcut
    go_wp2_with fail
    go_loopw [10] (fun i u => ∃ k : Nat, i = .int .i64 (k : Nat) ∧ k ≤ n ∧ Hid (RI w B R n (upL 0 k) u)) (fun i _ => n - (Go.RowKit.intOf i).toNat)
    case atStart => exact ⟨0, rfl, Nat.zero_le _, H0⟩
    case round =>
    obtain ⟨i, rfl, hi, HI⟩ := hrel
    clear H0
    by_cases hlt : i < n
    · have l1 : (i : Int) < (n : Int) := by omega
      have HF : Hid (Calls Try.prog 14 #[.pointer (some ⟨B, 0, none⟩)] wr _) := HI.out.full (b := false) (by rw [upL_len]; exact decide_eq_false (by omega))
      clear HI
      go_wp2_with fail
      refine HF.out.mono ?_
      rintro e u1 ⟨rfl, h1⟩
      have HP : Hid (Calls Try.prog 15 #[.pointer (some ⟨B, 0, none⟩), .int .i64 (i : Nat)] u1 _) := h1.push (by rw [upL_len]; omega) (i : Nat) (l' := upL 0 (i + 1)) (by have := upL_snoc 0 i; rw [Nat.zero_add] at this; exact this)
      clear h1 HF
      go_wp2_with fail
      refine HP.out.mono ?_
      rintro e u2 ⟨rfl, h2⟩
      have H2 : Hid (RI w B R n (upL 0 (i + 1)) u2) := h2
      clear h2 HP
      go_wp2_with fail
      go_roundw
      case rel => exact ⟨i + 1, by go_num, by omega, H2⟩
      case measure => simp [Go.RowKit.intOf]; omega
    have l1 : ¬ (i : Int) < (n : Int) := by omega
    obtain rfl : i = n := by omega
    obtain ⟨r, hr⟩ : ∃ r, y.tmod 300 = r := ⟨_, rfl⟩
    have ht := tmod300 y
    rw [hr] at ht
    obtain ⟨k, hk3, hk⟩ : ∃ k : Nat, k < 300 ∧ (r < 0 ∧ r = -(k : Int) ∨ ¬ r < 0 ∧ r = (k : Int)) := by
      by_cases h : r < 0
      · exact ⟨(-r).toNat, by omega, .inl ⟨h, by omega⟩⟩
      · exact ⟨r.toNat, by omega, .inr ⟨h, by omega⟩⟩
    have H0 : Hid (RI w B R i (upL 0 i) wr) := HI.out
    clear HI hlt hi
    rcases hk with ⟨hr0, hrk⟩ | ⟨hr0, hrk⟩
    · have hnk : -r = (k : Int) := by rw [hrk, Int.neg_neg]
      clear hrk
      go_wp2_with fail
      go_loopw [12] (fun v u => ∃ q : Nat, v = .int .i64 (q : Nat) ∧ q ≤ k ∧ Hid (RI w B R i (upL q i) u)) (fun v _ => k - (Go.RowKit.intOf v).toNat)
      case atStart => exact ⟨0, rfl, Nat.zero_le _, H0⟩
      case round =>
      obtain ⟨q, rfl, hq, HI⟩ := hrel
      clear H0
      by_cases hlt : q < k
      · have l1 : (q : Int) < (k : Int) := by omega
        have HF : Hid (Calls Try.prog 14 #[.pointer (some ⟨B, 0, none⟩)] wr _) := HI.out.full (b := true) (by rw [upL_len]; exact decide_eq_true rfl)
        clear HI
        go_wp2_with fail
        refine HF.out.mono ?_
        rintro e u1 ⟨rfl, h1⟩
        have HP : Hid (Calls Try.prog 15 #[.pointer (some ⟨B, 0, none⟩), .int .i64 (-1)] u1 _) := h1.push_full (by rw [upL_len]) (-1)
        clear h1 HF
        go_wp2_with fail
        refine HP.out.mono ?_
        rintro e u2 ⟨rfl, h1⟩
        have HF : Hid (Calls Try.prog 16 #[.pointer (some ⟨B, 0, none⟩)] u2 _) := h1.len (m := i) (by rw [upL_len])
        clear h1 HP
        go_wp2_with fail
        refine HF.out.mono ?_
        rintro e u3 ⟨rfl, h1⟩
        have HP : Hid (Calls Try.prog 17 #[.pointer (some ⟨B, 0, none⟩)] u3 _) := h1.pop (x := (q : Int)) (t := upL (q + 1) (i - 1)) (by rw [show i = i - 1 + 1 by omega]; exact upL_cons q (i - 1))
        clear h1 HF
        go_wp2_with fail
        refine HP.out.mono ?_
        rintro e u4 ⟨rfl, h1⟩
        have HF : Hid (Calls Try.prog 14 #[.pointer (some ⟨B, 0, none⟩)] u4 _) := h1.full (b := false) (by rw [upL_len]; exact decide_eq_false (by omega))
        clear h1 HP
        go_wp2_with fail
        refine HF.out.mono ?_
        rintro e u5 ⟨rfl, h1⟩
        have HP : Hid (Calls Try.prog 15 #[.pointer (some ⟨B, 0, none⟩), .int .i64 ((i : Int) + (q : Int))] u5 _) := h1.push (by rw [upL_len]; omega) ((i : Int) + (q : Int)) (l' := upL (q + 1) i) (by have h9 := upL_snoc (q + 1) (i - 1); rw [show ((q + 1 + (i - 1) : Nat) : Int) = (i : Int) + (q : Int) by omega, show i - 1 + 1 = i by omega] at h9; exact h9)
        clear h1 HF
        go_wp2_with fail
        refine HP.out.mono ?_
        rintro e u6 ⟨rfl, h1⟩
        have H2 : Hid (RI w B R i (upL (q + 1) i) u6) := h1
        clear h1 HP
        go_wp2_with fail
        go_roundw
        case rel => exact ⟨q + 1, by go_num, by omega, H2⟩
        case measure => simp [Go.RowKit.intOf]; omega
      have l1 : ¬ (q : Int) < (k : Int) := by omega
      obtain rfl : q = k := by omega
      have HF : Hid (Calls Try.prog 18 #[.pointer (some ⟨B, 0, none⟩)] wr _) := HI.out.all (m := i) (by rw [upL_len])
      clear HI hlt hq l1
      go_wp2_with fail
      refine HF.out.mono ?_
      rintro e u6 ⟨A, rfl, ho, h1⟩
      have H3 : Hid (Below w.heap.size w u6 ∧ ∀ j, j < i → u6.cell? ⟨A, j, none⟩ = some (.int .i64 ((q + j : Nat) : Nat))) := ⟨by obtain ⟨_, _, hb, _⟩ := h1; exact hb, fun j hj => by
        rw [ho.cellAt (g := A) j (by omega)]
        simp [ints, upL, hj]⟩
      clear HF ho h1
      go_wp2_with fail
      go_loopw [112] (fun v u => ∃ j : Nat, v = .int .i64 (j : Nat) ∧ j ≤ i ∧ Hid (Below w.heap.size w u ∧ ∀ j, j < i → u.cell? ⟨A, j, none⟩ = some (.int .i64 ((q + j : Nat) : Nat)))) (fun v _ => i - (Go.RowKit.intOf v).toNat)
      case atStart => exact ⟨0, rfl, Nat.zero_le _, H3⟩
      case round =>
      obtain ⟨j, rfl, hj, HI⟩ := hrel
      clear H3
      by_cases hlt : j < i
      · have l1 : (j : Int) < (i : Int) := by omega
        have c0 := HI.out.2 j hlt
        rw [show ((q + j : Nat) : Int) = (q : Int) + (j : Int) by omega] at c0
        go_wp2_with fail
        go_roundw
        case rel => exact ⟨j + 1, by go_num, by omega, HI⟩
        case measure => simp [Go.RowKit.intOf]; omega
      have l1 : ¬ (j : Int) < (i : Int) := by omega
      go_wp2_with fail
      go_ret
      exact ⟨rfl, HI.out.1⟩
    · subst hrk
      go_wp2_with fail
      go_loopw [12] (fun v u => ∃ q : Nat, v = .int .i64 (q : Nat) ∧ q ≤ k ∧ Hid (RI w B R i (upL q i) u)) (fun v _ => k - (Go.RowKit.intOf v).toNat)
      case atStart => exact ⟨0, rfl, Nat.zero_le _, H0⟩
      case round =>
      obtain ⟨q, rfl, hq, HI⟩ := hrel
      clear H0
      by_cases hlt : q < k
      · have l1 : (q : Int) < (k : Int) := by omega
        have HF : Hid (Calls Try.prog 14 #[.pointer (some ⟨B, 0, none⟩)] wr _) := HI.out.full (b := true) (by rw [upL_len]; exact decide_eq_true rfl)
        clear HI
        go_wp2_with fail
        refine HF.out.mono ?_
        rintro e u1 ⟨rfl, h1⟩
        have HP : Hid (Calls Try.prog 15 #[.pointer (some ⟨B, 0, none⟩), .int .i64 (-1)] u1 _) := h1.push_full (by rw [upL_len]) (-1)
        clear h1 HF
        go_wp2_with fail
        refine HP.out.mono ?_
        rintro e u2 ⟨rfl, h1⟩
        have HF : Hid (Calls Try.prog 16 #[.pointer (some ⟨B, 0, none⟩)] u2 _) := h1.len (m := i) (by rw [upL_len])
        clear h1 HP
        go_wp2_with fail
        refine HF.out.mono ?_
        rintro e u3 ⟨rfl, h1⟩
        have HP : Hid (Calls Try.prog 17 #[.pointer (some ⟨B, 0, none⟩)] u3 _) := h1.pop (x := (q : Int)) (t := upL (q + 1) (i - 1)) (by rw [show i = i - 1 + 1 by omega]; exact upL_cons q (i - 1))
        clear h1 HF
        go_wp2_with fail
        refine HP.out.mono ?_
        rintro e u4 ⟨rfl, h1⟩
        have HF : Hid (Calls Try.prog 14 #[.pointer (some ⟨B, 0, none⟩)] u4 _) := h1.full (b := false) (by rw [upL_len]; exact decide_eq_false (by omega))
        clear h1 HP
        go_wp2_with fail
        refine HF.out.mono ?_
        rintro e u5 ⟨rfl, h1⟩
        have HP : Hid (Calls Try.prog 15 #[.pointer (some ⟨B, 0, none⟩), .int .i64 ((i : Int) + (q : Int))] u5 _) := h1.push (by rw [upL_len]; omega) ((i : Int) + (q : Int)) (l' := upL (q + 1) i) (by have h9 := upL_snoc (q + 1) (i - 1); rw [show ((q + 1 + (i - 1) : Nat) : Int) = (i : Int) + (q : Int) by omega, show i - 1 + 1 = i by omega] at h9; exact h9)
        clear h1 HF
        go_wp2_with fail
        refine HP.out.mono ?_
        rintro e u6 ⟨rfl, h1⟩
        have H2 : Hid (RI w B R i (upL (q + 1) i) u6) := h1
        clear h1 HP
        go_wp2_with fail
        go_roundw
        case rel => exact ⟨q + 1, by go_num, by omega, H2⟩
        case measure => simp [Go.RowKit.intOf]; omega
      have l1 : ¬ (q : Int) < (k : Int) := by omega
      obtain rfl : q = k := by omega
      have HF : Hid (Calls Try.prog 18 #[.pointer (some ⟨B, 0, none⟩)] wr _) := HI.out.all (m := i) (by rw [upL_len])
      clear HI hlt hq l1
      go_wp2_with fail
      refine HF.out.mono ?_
      rintro e u6 ⟨A, rfl, ho, h1⟩
      have H3 : Hid (Below w.heap.size w u6 ∧ ∀ j, j < i → u6.cell? ⟨A, j, none⟩ = some (.int .i64 ((q + j : Nat) : Nat))) := ⟨by obtain ⟨_, _, hb, _⟩ := h1; exact hb, fun j hj => by
        rw [ho.cellAt (g := A) j (by omega)]
        simp [ints, upL, hj]⟩
      clear HF ho h1
      go_wp2_with fail
      go_loopw [112] (fun v u => ∃ j : Nat, v = .int .i64 (j : Nat) ∧ j ≤ i ∧ Hid (Below w.heap.size w u ∧ ∀ j, j < i → u.cell? ⟨A, j, none⟩ = some (.int .i64 ((q + j : Nat) : Nat)))) (fun v _ => i - (Go.RowKit.intOf v).toNat)
      case atStart => exact ⟨0, rfl, Nat.zero_le _, H3⟩
      case round =>
      obtain ⟨j, rfl, hj, HI⟩ := hrel
      clear H3
      by_cases hlt : j < i
      · have l1 : (j : Int) < (i : Int) := by omega
        have c0 := HI.out.2 j hlt
        rw [show ((q + j : Nat) : Int) = (q : Int) + (j : Int) by omega] at c0
        go_wp2_with fail
        go_roundw
        case rel => exact ⟨j + 1, by go_num, by omega, HI⟩
        case measure => simp [Go.RowKit.intOf]; omega
      have l1 : ¬ (j : Int) < (i : Int) := by omega
      go_wp2_with fail
      go_ret
      exact ⟨rfl, HI.out.1⟩
end Go.Proofs.Ytclcpblpmfijiaa
