/- RingPlays, walked. -/
import Derived.Test.YtclcpblpmfijiaaG23
namespace Go.Proofs.Ytclcpblpmfijiaa
open Go.RowKit Go.Maps Rg
attribute [local go_sem ↓] Go.wp_at_zero Go.wp_at_succ

abbrev Opc := Int × Bool × Int
def OpAt (w : World) (a : Option Addr) (l : List Opc) : Prop := l = [] ∨ ∃ b off, a = some ⟨b, off, none⟩ ∧ ∀ (i : Nat) x, l[i]? = some x → w.cell? ⟨b, off + i * 3, none⟩ = some (.int .i64 x.1) ∧ w.cell? ⟨b, off + i * 3 + 1, none⟩ = some (.bool x.2.1) ∧ w.cell? ⟨b, off + i * 3 + 2, none⟩ = some (.int .i64 x.2.2)
theorem OpAt.nth {w : World} {a : Option Addr} {l : List Opc} (h : OpAt w a l) {i : Nat} (hi : i < l.length) : ∃ b off, ∃ x : Opc, a = some ⟨b, off, none⟩ ∧ w.cell? ⟨b, off + i * 3, none⟩ = some (.int .i64 x.1) ∧ w.cell? ⟨b, off + i * 3 + 1, none⟩ = some (.bool x.2.1) ∧ w.cell? ⟨b, off + i * 3 + 2, none⟩ = some (.int .i64 x.2.2) := by
  rcases h with h | ⟨b, off, e, h⟩
  · subst h; simp at hi
  · exact ⟨b, off, l[i], e, h i _ (List.getElem?_eq_getElem hi)⟩
theorem S2.xcell {w u : World} {n m : Int} {X Y a b K : Nat} {D : Nat → Nat} (h : S2 w n m X Y D a b K u) : u.cell? ⟨X, 0, none⟩ = some (pv D b 0) ∧ u.cell? ⟨X, 1, none⟩ = some (pv D b 1) ∧ ∀ i, u.frozen? ⟨X, i, none⟩ = false := by
  refine ⟨?_, ?_, fun i => ?_⟩
  · simp [World.cell?, h.xx]
  · simp [World.cell?, h.xx]
  · simp [World.frozen?, h.xx]
theorem S2.xi {w u : World} {n m : Int} {X Y a b K : Nat} {D : Nat → Nat} (h : S2 w n m X Y D a b K u) {i : Nat} (hi : i < 2) : u.cell? ⟨X, i, none⟩ = some (pv D b i) ∧ u.frozen? ⟨X, i, none⟩ = false ∧ ∃ z, u.cell? ⟨Y, i, none⟩ = some (.int .i64 z) := by
  obtain ⟨h1, h2, h3⟩ := h.xcell
  rcases (by omega : i = 0 ∨ i = 1) with e | e <;> subst e
  · exact ⟨h1, h3 0, n, by simp [World.cell?, h.yy]⟩
  · exact ⟨h2, h3 1, m, by simp [World.cell?, h.yy]⟩
theorem ix0 (a b : Addr) (u : World) : (Instr.index 48 (.agg #[.pointer (some a), .pointer (some b)]) (.int .i64 0)).run Try.prog u = .ok (.pointer (some a)) u := by kernel_rfl
theorem ix1 (a b : Addr) (u : World) : (Instr.index 48 (.agg #[.pointer (some a), .pointer (some b)]) (.int .i64 1)).run Try.prog u = .ok (.pointer (some b)) u := by kernel_rfl
set_option maxRecDepth 8000 in
set_option maxHeartbeats 4000000 in
theorem ringplays_any {w : World} {n m : Int} {a : Option Addr} {c : Nat} {ops : List Opc} (ho : OpAt w a ops) (hl : ops.length ≤ 1100000) :
    Calls Try.prog 5 #[.int .i64 n, .int .i64 m, .slice a ops.length c] w fun e w' => e = .returned (.bool true) ∧ Below w.heap.size w w' := by
  obtain ⟨nS, hnS⟩ : ∃ nS, ops.length = nS := ⟨_, rfl⟩
  rw [hnS] at hl ⊢
  have HO : Hid (OpAt w a ops ∧ ops.length = nS) := (⟨ho, hnS⟩ : _ ∧ _)
  obtain ⟨w1, hw1⟩ : ∃ w1, w.alloc (.cells #[.pointer none, .pointer none] 48) = w1 := ⟨_, rfl⟩
  obtain ⟨X, hX⟩ : ∃ X, w.heap.size = X := ⟨_, rfl⟩
  have s1 : w1.heap.size = X + 1 := by rw [← hw1, ← hX]; exact Array.size_push ..
  obtain ⟨w2, hw2⟩ : ∃ w2, w1.alloc (.cells #[.int .i64 n, .int .i64 m] 3) = w2 := ⟨_, rfl⟩
  have H0 : Hid (S2 w n m X (X + 1) (fun _ => 0) 0 0 0 w2) := by
    have k1 : Below w.heap.size w w1 := by rw [← hw1]; exact below_new w _
    have k2 : Below w1.heap.size w1 w2 := by rw [← hw2]; exact below_new w1 _
    have e1 : w1.heap[X]? = some (.cells #[.pointer none, .pointer none] 48 (0, 0)) := by rw [← hw1, ← hX]; exact heap_alloc_new w _
    have e2 : w2.heap[X + 1]? = some (.cells #[.int .i64 n, .int .i64 m] 3 (0, 0)) := by rw [← hw2, ← s1]; exact heap_alloc_new w1 _
    exact ⟨below_step k1 k2, (k2.block X (by omega)).trans e1, e2, Nat.le_of_eq hX, fun k => if k < X then (3, 0) else (2, 0), fun k hk => by show (if k < X then _ else _ : Nat × Nat).1 = 3; rw [if_pos (by omega)], by show (if X < X then _ else _ : Nat × Nat).1 = 2; rw [if_neg (by omega)], by show (if X + 1 < X then _ else _ : Nat × Nat).1 = 2; rw [if_neg (by omega)], fun p _ hp => by omega⟩
  clear ho hnS
  go_enter Try.func5, Try.ntmps5
  go_wp2_with fail
  go_loopw [23] (fun v u => ∃ (i : Nat) (D : Nat → Nat), v = .int .i64 (i : Nat) ∧ i ≤ 2 ∧ Hid (S2 w n m X (X + 1) D 0 i 0 u)) (fun v _ => 2 - (Go.RowKit.intOf v).toNat)
  case atStart => exact ⟨0, _, rfl, by omega, H0⟩
  case round =>
    obtain ⟨i, D, rfl, hi, HS⟩ := hrel
    clear H0 hw1 hw2 s1
    by_cases hlt : i < 2
    · have l1 : (i : Int) < 2 := by omega
      obtain ⟨x1, x2, z, x3⟩ := HS.out.xi hlt
      by_cases hz : z < 1 ∨ 64 < z
      · have HZ : Hid (z < 1 ∨ 64 < z) := hz
        clear hz
        go_wp2_with fail
        refine (new_bad HZ.out).mono ?_
        rintro e v0 ⟨rfl, rfl⟩
        go_wp2_with fail
        refine (rref_bad HZ.out).mono ?_
        rintro e v0 ⟨rfl, rfl⟩
        go_wp2_with fail
        refine (new_any (z := 3) (by omega)).mono ?_
        rintro e w3 ⟨B, R, rfl, hr, hb3, hB, hR⟩
        have HR : Hid (RgAt w3 B R 3 0 [] ∧ Below v0.heap.size v0 w3 ∧ v0.heap.size ≤ B ∧ v0.heap.size ≤ R) := (⟨hr, hb3, hB, hR⟩ : _ ∧ _ ∧ _ ∧ _)
        clear hr hb3 hB hR x1 x2 x3
        go_wp2_with fail
        refine (rref_new (z := 3) (n := 3) rfl (by omega)).mono ?_
        rintro e w4 ⟨Q, rfl, hrq, hQ, hb4⟩
        have HB4 : Hid (Below v0.heap.size v0 w4) := below_step HR.out.2.1 hb4
        have HS5 := (HS.out.add hlt HB4.out (HR.out.1.later hb4) hrq HR.out.2.2.1 HR.out.2.2.2 (by have := HR.out.2.1.size; omega) rfl)
        obtain ⟨w5, hw5⟩ : ∃ w5, w4.alloc (.cells #[.pointer (some ⟨B, 0, none⟩), .pointer (some ⟨Q, 0, none⟩), .slice none 0 0, .slice none 0 0] 54) = w5 := ⟨_, rfl⟩
        have k5 : Below w4.heap.size w4 w5 := by rw [← hw5]; exact below_new w4 _
        rw [hw5] at HS5
        have HN : Hid (S2 w n m X (X + 1) (fun j => if j = i then w4.heap.size else D j) 0 (i + 1) 0 (w5.setCell ⟨X, i, none⟩ (.pointer (some ⟨w4.heap.size, 0, none⟩)))) := HS5
        obtain ⟨x1, x2, z', x3⟩ := ((HS.out.later HB4.out).later k5).xi hlt
        clear hrq hQ hb4 k5 x3 HR HS5
        go_wp2_with fail
        go_roundw
        case rel => exact ⟨i + 1, _, by go_num, by omega, HN⟩
        case measure => simp [Go.RowKit.intOf]; omega
      · have HZ : Hid (1 ≤ z ∧ z ≤ 64) := (by omega : _ ∧ _)
        obtain ⟨q, rfl⟩ := Int.eq_ofNat_of_zero_le (a := z) (by omega)
        have hq : 1 ≤ q ∧ q ≤ 64 := by omega
        clear hz
        go_wp2_with fail
        refine (new_any HZ.out).mono ?_
        rintro e w3 ⟨B, R, rfl, hr, hb3, hB, hR⟩
        have HR : Hid (RgAt w3 B R q 0 [] ∧ Below wr.heap.size wr w3 ∧ wr.heap.size ≤ B ∧ wr.heap.size ≤ R) := (⟨hr, hb3, hB, hR⟩ : _ ∧ _ ∧ _ ∧ _)
        clear hr hb3 hB hR x1 x2 x3
        go_wp2_with fail
        refine (rref_new rfl hq).mono ?_
        rintro e w4 ⟨Q, rfl, hrq, hQ, hb4⟩
        have HB4 : Hid (Below wr.heap.size wr w4) := below_step HR.out.2.1 hb4
        have HS5 := (HS.out.add hlt HB4.out (HR.out.1.later hb4) hrq HR.out.2.2.1 HR.out.2.2.2 (by have := HR.out.2.1.size; omega) rfl)
        obtain ⟨w5, hw5⟩ : ∃ w5, w4.alloc (.cells #[.pointer (some ⟨B, 0, none⟩), .pointer (some ⟨Q, 0, none⟩), .slice none 0 0, .slice none 0 0] 54) = w5 := ⟨_, rfl⟩
        have k5 : Below w4.heap.size w4 w5 := by rw [← hw5]; exact below_new w4 _
        rw [hw5] at HS5
        have HN : Hid (S2 w n m X (X + 1) (fun j => if j = i then w4.heap.size else D j) 0 (i + 1) 0 (w5.setCell ⟨X, i, none⟩ (.pointer (some ⟨w4.heap.size, 0, none⟩)))) := HS5
        obtain ⟨x1, x2, z', x3⟩ := ((HS.out.later HB4.out).later k5).xi hlt
        clear hrq hQ hb4 k5 x3 HR HS5
        go_wp2_with fail
        go_roundw
        case rel => exact ⟨i + 1, _, by go_num, by omega, HN⟩
        case measure => simp [Go.RowKit.intOf]; omega
    · have l1 : ¬ (i : Int) < 2 := by omega
      obtain rfl : i = 2 := by omega
      have HS2 : Hid (S2 w n m X (X + 1) D 0 2 0 wr) := HS.out
      clear HS
      go_wp2_with fail
      go_loopw [78] (fun v u => ∃ k : Nat, v = .int .i64 (k : Nat) ∧ k ≤ nS ∧ Hid (S2 w n m X (X + 1) D 0 2 (2 * k) u)) (fun v _ => nS - (Go.RowKit.intOf v).toNat)
      case atStart => exact ⟨0, rfl, Nat.zero_le _, HS2⟩
      case round =>
        obtain ⟨k, rfl, hk, HS⟩ := hrel
        clear HS2
        by_cases hkl : k < nS
        · have l2 : (k : Int) < (nS : Int) := by omega
          obtain ⟨b, off, ⟨kd, tw, x⟩, rfl, c0, c1, c2⟩ := HO.out.1.nth (i := k) (by rw [HO.out.2]; exact hkl)
          have c0' := cell_later HS.out.lo _ _ _ c0
          have c1' := cell_later HS.out.lo _ _ _ c1
          have c2' := cell_later HS.out.lo _ _ _ c2
          clear c0 c1 c2
          obtain ⟨w6, hw6, ob6, hb6⟩ := new_op wr kd tw x
          have hs6 := HS.out.later hb6
          have HS6 : Hid (S2 w n m X (X + 1) D 0 2 (2 * k) w6) := hs6
          have h6a := hs6.xcell.1
          have h6b := hs6.xcell.2.1
          have o0 := ob6.cells.1
          have o2 := ob6.cells.2
          have o1 : w6.cell? ⟨wr.heap.size, 1, none⟩ = some (.bool tw) := by simp [World.cell?, show w6.heap[wr.heap.size]? = _ from ob6]
          have hK : 2 * k ≤ 4000000 := by omega
          clear hs6 ob6 hb6
          cases tw
          · have HPL : Hid (Calls Try.prog 20 #[.pointer (some ⟨D 0, 0, none⟩), opV kd false x] w6.drew fun e w' => e = .returned (.bool true) ∧ S2 w n m X (X + 1) D 0 2 (2 * k + 2) w') := S2.plays (p := 0) (HS6.out.later (drew_below w6 1)) (by omega) (by omega) (by omega) hK kd false x
            go_upto_region 22 with fail
            go_cut [89] from 84 to 90 (fun v wx => v = .bool false ∧ Hid (S2 w n m X (X + 1) D 0 2 (2 * k + 2) wx))
            case first =>
              go_region_with (go_at_call 20; refine HPL.out.mono ?_; rintro e w7 ⟨rfl, hs7⟩; have HS7 : Hid (S2 w n m X (X + 1) D 0 2 (2 * k + 2) w7) := hs7; clear hs7)
              all_goals
                go_wp2_with fail
                go_meet
                case rel => exact ⟨rfl, HS7⟩
            case rest =>
              obtain ⟨rfl, HS7⟩ := hcut
              go_wp2_with fail
              go_roundw
              case rel => exact ⟨k + 1, by go_num, by omega, by rw [show 2 * (k + 1) = 2 * k + 2 by omega]; exact HS7⟩
              case measure => simp [Go.RowKit.intOf]; omega
          · have HPL : Hid (Calls Try.prog 20 #[.pointer (some ⟨D 1, 0, none⟩), opV kd true x] w6.drew fun e w' => e = .returned (.bool true) ∧ S2 w n m X (X + 1) D 0 2 (2 * k + 2) w') := S2.plays (p := 1) (HS6.out.later (drew_below w6 1)) (by omega) (by omega) (by omega) hK kd true x
            go_upto_region 22 with fail
            go_cut [89] from 84 to 90 (fun v wx => v = .bool false ∧ Hid (S2 w n m X (X + 1) D 0 2 (2 * k + 2) wx))
            case first =>
              go_region_with (go_at_call 20; refine HPL.out.mono ?_; rintro e w7 ⟨rfl, hs7⟩; have HS7 : Hid (S2 w n m X (X + 1) D 0 2 (2 * k + 2) w7) := hs7; clear hs7)
              all_goals
                go_wp2_with fail
                go_meet
                case rel => exact ⟨rfl, HS7⟩
            case rest =>
              obtain ⟨rfl, HS7⟩ := hcut
              go_wp2_with fail
              go_roundw
              case rel => exact ⟨k + 1, by go_num, by omega, by rw [show 2 * (k + 1) = 2 * k + 2 by omega]; exact HS7⟩
              case measure => simp [Go.RowKit.intOf]; omega
        · have l2 : ¬ (k : Int) < (nS : Int) := by omega
          obtain rfl : k = nS := by omega
          have HS3 : Hid (S2 w n m X (X + 1) D 0 2 (2 * k) wr) := HS.out
          have h6a : wr.cell? ⟨X, 0, none⟩ = some (.pointer (some ⟨D 0, 0, none⟩)) := HS.out.xcell.1
          have h6b : wr.cell? ⟨X, 1, none⟩ = some (.pointer (some ⟨D 1, 0, none⟩)) := HS.out.xcell.2.1
          have hx0 : ∀ u : World, (Instr.index 48 (.agg #[.pointer (some ⟨D 0, 0, none⟩), .pointer (some ⟨D 1, 0, none⟩)]) (.int .i64 0)).run Try.prog u = .ok (.pointer (some ⟨D 0, 0, none⟩)) u := fun u => ix0 _ _ u
          have hx1 : ∀ u : World, (Instr.index 48 (.agg #[.pointer (some ⟨D 0, 0, none⟩), .pointer (some ⟨D 1, 0, none⟩)]) (.int .i64 1)).run Try.prog u = .ok (.pointer (some ⟨D 1, 0, none⟩)) u := fun u => ix1 _ _ u
          clear HS
          go_wp2_with fail
          go_loopw [92] (fun v u => ∃ j K : Nat, v = .int .i64 (j : Nat) ∧ j ≤ 2 ∧ K ≤ 2200000 + 2 * j ∧ Hid (S2 w n m X (X + 1) D j 2 K u)) (fun v _ => 2 - (Go.RowKit.intOf v).toNat)
          case atStart => exact ⟨0, _, rfl, by omega, by omega, HS3⟩
          case round =>
            obtain ⟨j, K, rfl, hj, hK2, HS4⟩ := hrel
            clear HS3 h6a h6b
            have hK : K ≤ 4000000 := by omega
            rcases (by omega : j = 0 ∨ j = 1 ∨ j = 2) with rfl | rfl | rfl
            · have HB : Hid (S2 w n m X (X + 1) D 0 2 K wr) := HS4.out
              clear HS4
              go_wp2_with fail
              refine (HB.out.asks (p := 0) (by omega) (by omega) (by omega)).mono ?_
              rintro e w8 ⟨rfl, hs8⟩
              have HB8 : Hid (S2 w n m X (X + 1) D 0 2 K w8) := hs8
              clear hs8 HB
              go_wp2_with fail
              refine (HB8.out.all (p := 0) (by omega) (by omega) (by omega) hK).mono ?_
              rintro e w9 ⟨rfl, hs9⟩
              have HB9 : Hid (S2 w n m X (X + 1) D 0 2 (K + 2) w9) := hs9
              clear hs9 HB8
              go_wp2_with fail
              go_loopw [103] (fun v u => ∃ r : Nat, v = .int .i64 (r : Nat) ∧ r ≤ 65 ∧ Hid (S2 w n m X (X + 1) D 0 2 (K + 2) u)) (fun v _ => 65 - (Go.RowKit.intOf v).toNat)
              case atStart => exact ⟨0, rfl, Nat.zero_le _, HB9⟩
              case round =>
                obtain ⟨r, rfl, hr, HR⟩ := hrel
                clear HB9
                by_cases hrl : r < 65
                · have l4 : (r : Int) < 65 := by omega
                  go_wp2_with fail
                  refine (HR.out.pop (p := 0) (by omega) (by omega) (by omega) false 0).mono ?_
                  rintro e w10 ⟨rfl, hs10⟩
                  have HB10 : Hid (S2 w n m X (X + 1) D 0 2 (K + 2) w10) := hs10
                  clear hs10 HR
                  go_wp2_with fail
                  go_roundw
                  case rel => exact ⟨r + 1, by go_num, by omega, HB10⟩
                  case measure => simp [Go.RowKit.intOf]; omega
                · have l4 : ¬ (r : Int) < 65 := by omega
                  go_wp2_with fail
                  refine (HR.out.asks (p := 0) (by omega) (by omega) (by omega)).mono ?_
                  rintro e w11 ⟨rfl, hs11⟩
                  have HB11 : Hid (S2 w n m X (X + 1) D 0 2 (K + 2) w11) := hs11
                  clear hs11 HR
                  go_wp2_with fail
                  refine (HB11.out.holds (by omega) (by omega) (by omega)).mono ?_
                  rintro e w12 ⟨rfl, hs12⟩
                  have HB12 : Hid (S2 w n m X (X + 1) D (0 + 1) 2 (K + 2) w12) := hs12
                  clear hs12 HB11
                  go_wp2_with fail
                  go_roundw
                  case rel => exact ⟨0 + 1, K + 2, by rfl, by omega, by omega, HB12⟩
                  case measure => simp [Go.RowKit.intOf]
            · have HB : Hid (S2 w n m X (X + 1) D 1 2 K wr) := HS4.out
              clear HS4
              go_wp2_with fail
              refine (HB.out.asks (p := 1) (by omega) (by omega) (by omega)).mono ?_
              rintro e w8 ⟨rfl, hs8⟩
              have HB8 : Hid (S2 w n m X (X + 1) D 1 2 K w8) := hs8
              clear hs8 HB
              go_wp2_with fail
              refine (HB8.out.all (p := 1) (by omega) (by omega) (by omega) hK).mono ?_
              rintro e w9 ⟨rfl, hs9⟩
              have HB9 : Hid (S2 w n m X (X + 1) D 1 2 (K + 2) w9) := hs9
              clear hs9 HB8
              go_wp2_with fail
              go_loopw [103] (fun v u => ∃ r : Nat, v = .int .i64 (r : Nat) ∧ r ≤ 65 ∧ Hid (S2 w n m X (X + 1) D 1 2 (K + 2) u)) (fun v _ => 65 - (Go.RowKit.intOf v).toNat)
              case atStart => exact ⟨0, rfl, Nat.zero_le _, HB9⟩
              case round =>
                obtain ⟨r, rfl, hr, HR⟩ := hrel
                clear HB9
                by_cases hrl : r < 65
                · have l4 : (r : Int) < 65 := by omega
                  go_wp2_with fail
                  refine (HR.out.pop (p := 1) (by omega) (by omega) (by omega) false 0).mono ?_
                  rintro e w10 ⟨rfl, hs10⟩
                  have HB10 : Hid (S2 w n m X (X + 1) D 1 2 (K + 2) w10) := hs10
                  clear hs10 HR
                  go_wp2_with fail
                  go_roundw
                  case rel => exact ⟨r + 1, by go_num, by omega, HB10⟩
                  case measure => simp [Go.RowKit.intOf]; omega
                · have l4 : ¬ (r : Int) < 65 := by omega
                  go_wp2_with fail
                  refine (HR.out.asks (p := 1) (by omega) (by omega) (by omega)).mono ?_
                  rintro e w11 ⟨rfl, hs11⟩
                  have HB11 : Hid (S2 w n m X (X + 1) D 1 2 (K + 2) w11) := hs11
                  clear hs11 HR
                  go_wp2_with fail
                  refine (HB11.out.holds (by omega) (by omega) (by omega)).mono ?_
                  rintro e w12 ⟨rfl, hs12⟩
                  have HB12 : Hid (S2 w n m X (X + 1) D (1 + 1) 2 (K + 2) w12) := hs12
                  clear hs12 HB11
                  go_wp2_with fail
                  go_roundw
                  case rel => exact ⟨1 + 1, K + 2, by rfl, by omega, by omega, HB12⟩
                  case measure => simp [Go.RowKit.intOf]
            · go_wp2_with fail
              go_ret
              exact ⟨rfl, HS4.out.lo⟩
end Go.Proofs.Ytclcpblpmfijiaa
