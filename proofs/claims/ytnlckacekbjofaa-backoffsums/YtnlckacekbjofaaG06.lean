/- BackoffExact answers true. -/
import Derived.Test.YtnlckacekbjofaaG04
namespace Go.Proofs.Ytnlckacekbjofaa
open Go.RowKit Bo
attribute [local go_sem ↓] Go.wp_at_zero Go.wp_at_succ

/-- THE ASKS THAT CAME IN: seven numbers each -/
def AkAt (w : World) (a : Option Addr) (n c : Nat) (l : Nat → Nat → Int) : Prop := n ≤ c ∧ c ≤ 9223372036854775807 ∧ (∀ i j, i < n → j < 7 → Fit64 (l i j)) ∧ (a = none ∧ n = 0 ∧ c = 0 ∨ ∃ b off spot, a = some ⟨b, off, spot⟩ ∧ (0 < n → spot = none) ∧ ∀ i j, i < n → j < 7 → w.cell? ⟨b, off + i * 7 + j, none⟩ = some (.int .i64 (l i j)))
theorem below_cell {w u : World} (h : Below w.heap.size w u) {b k : Nat} {v : Value} (hc : w.cell? ⟨b, k, none⟩ = some v) : u.cell? ⟨b, k, none⟩ = some v := by
  have hlt : b < w.heap.size := by
    rcases Nat.lt_or_ge b w.heap.size with e | e
    · exact e
    · have : w.heap[b]? = none := Array.getElem?_eq_none e
      simp [World.cell?, this] at hc
  have hb := h.block b hlt
  simp only [World.cell?] at hc ⊢
  rw [hb]
  exact hc
/-- an ask in a box of the law's own -/
def Bx (w : World) (S : Nat) (f : Nat → Int) : Prop := w.heap[S]? = some (.cells #[.int .i64 (f 0), .int .i64 (f 1), .int .i64 (f 2), .int .i64 (f 3), .int .i64 (f 4), .int .i64 (f 5), .int .i64 (f 6)] 36)
theorem new_ask (u : World) (f : Nat → Int) : ∃ w1, u.alloc (.cells #[.int .i64 (f 0), .int .i64 (f 1), .int .i64 (f 2), .int .i64 (f 3), .int .i64 (f 4), .int .i64 (f 5), .int .i64 (f 6)] 36) = w1 ∧ Bx w1 u.heap.size f ∧ Below u.heap.size u w1 :=
  ⟨_, rfl, (MapKept.heap_alloc _ _).1, (Below.refl _ _).alloc (Nat.le_refl _) _⟩
theorem Bx.cells {w : World} {S : Nat} {f : Nat → Int} (h : Bx w S f) : w.cell? ⟨S, 0, none⟩ = some (.int .i64 (f 0)) ∧ w.cell? ⟨S, 1, none⟩ = some (.int .i64 (f 1)) ∧ w.cell? ⟨S, 2, none⟩ = some (.int .i64 (f 2)) ∧ w.cell? ⟨S, 3, none⟩ = some (.int .i64 (f 3)) ∧ w.cell? ⟨S, 4, none⟩ = some (.int .i64 (f 4)) ∧ w.cell? ⟨S, 5, none⟩ = some (.int .i64 (f 5)) ∧ w.cell? ⟨S, 6, none⟩ = some (.int .i64 (f 6)) := by
  have h' : w.heap[S]? = _ := h
  refine ⟨?_, ?_, ?_, ?_, ?_, ?_, ?_⟩ <;> simp [World.cell?, h']
set_option maxRecDepth 8000 in
set_option maxHeartbeats 1600000 in
theorem exact_any {w : World} {a : Option Addr} {n c : Nat} {l : Nat → Nat → Int} (h : AkAt w a n c l) : Calls Try.prog 6 #[.slice a n c] w fun e w' => e = .returned (.bool true) ∧ Below w.heap.size w w' := by
  have HK : Hid (∀ u, Calls Try.prog 7 #[] u _) := known_fn
  obtain ⟨hnc, hc, hf, hx⟩ := h
  rcases hx with ⟨rfl, rfl, rfl⟩ | ⟨b, off, spot, rfl, hs, hx⟩
  · clear hf
    go_enter Try.func6, Try.ntmps6
    go_wp2_with fail
    refine (HK.out _).mono ?_
    rintro e u ⟨rfl, hu⟩
    subst u
    clear HK
    go_wp2_with fail
    go_loopw [17] (fun v u => v = .int .i64 0 ∧ w = u) (fun v _ => 0)
    case atStart => exact ⟨rfl, rfl⟩
    case round =>
      obtain ⟨rfl, rfl⟩ := hrel
      go_wp2
      go_ret
      exact ⟨rfl, Below.refl _ _⟩
  · have HX : Hid (∀ i j, i < n → j < 7 → w.cell? ⟨b, off + i * 7 + j, none⟩ = some (.int .i64 (l i j))) := hx
    have HF : Hid (∀ i j, i < n → j < 7 → Fit64 (l i j)) := hf
    have HSP : Hid (0 < n → spot = none) := hs
    clear hx hf hs
    go_enter Try.func6, Try.ntmps6
    go_wp2_with fail
    refine (HK.out _).mono ?_
    rintro e u ⟨rfl, hu⟩
    subst u
    clear HK
    go_upto_region 3 with fail
    go_cut [14, 15, 16, 17] from 11 to 13 (fun x y z t wx => ∃ q : Nat, q ≤ n ∧ q ≤ 40 ∧ x = .int .i64 (q : Nat) ∧ y = .slice (some ⟨b, off, spot⟩) q c ∧ z = .int .i64 (q : Nat) ∧ t = .int .i64 0 ∧ w = wx)
    case first =>
      by_cases h40 : n ≤ 40
      · go_wp2_with fail
        go_meet
        case rel => exact ⟨n, Nat.le_refl _, h40, rfl, rfl, rfl, rfl, rfl⟩
      · go_wp2_with fail
        go_meet
        case rel => exact ⟨40, by omega, by omega, rfl, rfl, rfl, rfl, rfl⟩
    case rest =>
    obtain ⟨q, hqn, hq40, rfl, rfl, rfl, rfl, rfl⟩ := hcut
    go_wp2_with fail
    go_loopw [17] (fun v u => ∃ k : Nat, v = .int .i64 (k : Nat) ∧ k ≤ q ∧ Hid (Below w.heap.size w u)) (fun v _ => q - (intOf v).toNat)
    case atStart => exact ⟨0, rfl, Nat.zero_le _, Below.refl _ _⟩
    case round =>
      obtain ⟨k, rfl, hk, HB⟩ := hrel
      by_cases hlt : k < q
      · have l1 : (k : Int) < (q : Int) := by omega
        obtain rfl : spot = none := HSP.out (by omega)
        have HY : Hid (∀ j, j < 7 → wr.cell? ⟨b, off + k * 7 + j, none⟩ = some (.int .i64 (l k j))) := fun j hj => below_cell HB.out (HX.out k j (by omega) hj)
        have HFk : Hid (∀ j, j < 7 → Fit64 (l k j)) := fun j hj => HF.out k j (by omega) hj
        obtain ⟨f, hf⟩ : ∃ f, l k = f := ⟨_, rfl⟩
        rw [hf] at HY HFk
        clear hf
        have c0 := HY.out 0 (by omega)
        have c1 := HY.out 1 (by omega)
        have c2 := HY.out 2 (by omega)
        have c3 := HY.out 3 (by omega)
        have c4 := HY.out 4 (by omega)
        have c5 := HY.out 5 (by omega)
        have c6 := HY.out 6 (by omega)
        rw [Nat.add_zero] at c0
        obtain ⟨w6, hw6, ob6, hb6⟩ := new_ask wr f
        have HB6 : Hid (Below w.heap.size w w6) := HB.out.trans (hb6.mono HB.out.size)
        obtain ⟨o0, o1, o2, o3, o4, o5, o6⟩ := ob6.cells
        obtain ⟨x1, e1, hD1, hD2⟩ := delay_both (f 0) (f 1) (f 2) (HFk.out 2 (by omega))
        have HD1 : Hid (∀ w, Calls Try.prog 8 #[.int .i64 (f 0), .int .i64 (f 1), .int .i64 (f 2)] w _) := hD1
        have HD2 : Hid (∀ w, Calls Try.prog 13 #[.int .i64 (f 0), .int .i64 (f 1), .int .i64 (f 2)] w _) := hD2
        obtain ⟨x2, e2, hU1, hU2⟩ := due_both (f 3) (f 0) (f 1) (f 2) (f 4) (f 5) (HFk.out 2 (by omega))
        have HU1 : Hid (∀ w, Calls Try.prog 12 #[.int .i64 (f 3), .int .i64 (f 0), .int .i64 (f 1), .int .i64 (f 2), .int .i64 (f 4), .int .i64 (f 5)] w _) := hU1
        have HU2 : Hid (∀ w, Calls Try.prog 14 #[.int .i64 (f 3), .int .i64 (f 0), .int .i64 (f 1), .int .i64 (f 2), .int .i64 (f 4), .int .i64 (f 5)] w _) := hU2
        obtain ⟨x3, e3, hS1, hS2⟩ := sum_both (f 0) (f 1) (f 6)
        have HS1 : Hid (∀ w, Calls Try.prog 11 #[.int .i64 (f 0), .int .i64 (f 1), .int .i64 (f 6)] w _) := hS1
        have HS2 : Hid (∀ w, Calls Try.prog 15 #[.int .i64 (f 0), .int .i64 (f 1), .int .i64 (f 6)] w _) := hS2
        clear hD1 hD2 hU1 hU2 hS1 hS2 ob6 hb6 HY HFk HB
        go_wp2_with fail
        try rw [hw6]
        refine (HD1.out _).mono ?_
        rintro e u ⟨rfl, hu⟩
        subst u
        clear HD1
        go_wp2_with fail
        refine (HD2.out _).mono ?_
        rintro e u ⟨rfl, hu⟩
        subst u
        clear HD2
        go_wp2_with fail
        refine (HU1.out _).mono ?_
        rintro e u ⟨rfl, hu⟩
        subst u
        clear HU1
        go_wp2_with fail
        refine (HU2.out _).mono ?_
        rintro e u ⟨rfl, hu⟩
        subst u
        clear HU2
        go_wp2_with fail
        refine (HS1.out _).mono ?_
        rintro e u ⟨rfl, hu⟩
        subst u
        clear HS1
        go_wp2_with fail
        refine (HS2.out _).mono ?_
        rintro e u ⟨rfl, hu⟩
        subst u
        clear HS2
        go_wp2_with fail
        go_roundw
        case rel => exact ⟨k + 1, by go_num, by omega, HB6⟩
        case measure => simp [Go.RowKit.intOf]; omega
      · have l1 : ¬ (k : Int) < (q : Int) := by omega
        have HB' : Hid (Below w.heap.size w wr) := HB.out
        go_wp2
        go_ret
        exact ⟨rfl, HB'.out⟩
end Go.Proofs.Ytnlckacekbjofaa
