/- heronlaw15: sameInts, sameTexts. -/
import Derived.Test.YtobbcgendjakiaaG38
import Derived.BigQuiet
import Derived.BigRegion
namespace Go.Proofs.Ytobbcgendjakiaa
open Go.RowKit Go.Maps Sf Go.Sort
attribute [local go_sem ↓] Go.wp_at_zero Go.wp_at_succ

theorem lat_nth {w : World} {a : Option Addr} {n c : Nat} {xs : List Value} (h : LAt w (.slice a n c) xs) {k : Nat} (hk : k < n) : ∃ b off v, a = some ⟨b, off, none⟩ ∧ xs[k]? = some v ∧ w.cell? ⟨b, off + k, none⟩ = some v := by
  obtain ⟨a', c', e, h1, h2, h3⟩ := h
  cases e
  rcases h3 with rfl | ⟨b, off, rfl, hc⟩
  · simp at hk
  · exact ⟨b, off, xs[k], rfl, List.getElem?_eq_getElem hk, hc k _ (List.getElem?_eq_getElem hk)⟩
theorem lat_len {w : World} {V : Value} {xs : List Value} (h : LAt w V xs) : ∃ a c, V = .slice a xs.length c := by
  obtain ⟨a, c, e, _⟩ := h
  exact ⟨a, c, e⟩
theorem below_drew' {w u : World} (h : Hid (Below w.heap.size w u)) : Hid (Below w.heap.size w u.drew) := (h.out.trans (((Below.refl _ u).drew).mono h.out.size) : Below _ _ _)
set_option maxRecDepth 8000 in
set_option maxHeartbeats 1000000 in
theorem sameInts_any {w : World} {Va Vb : Value} {l : List Int} (ha : LAt w Va (ints l)) (hb : LAt w Vb (ints l)) (hl : l.length ≤ 1000000000) : Calls Try.prog 11 #[Va, Vb] w fun e w' => e = .returned (.bool true) ∧ Below w.heap.size w w' := by
  obtain ⟨aa, ca, rfl⟩ := lat_len ha
  obtain ⟨ab, cb, rfl⟩ := lat_len hb
  rw [ints_len] at ha hb ⊢
  obtain ⟨n, hn⟩ : ∃ n, l.length = n := ⟨_, rfl⟩
  rw [hn] at ha hb hl ⊢
  have HA : Hid (LAt w (.slice aa n ca) (ints l)) := ha
  have HB : Hid (LAt w (.slice ab n cb) (ints l)) := hb
  have H0 : Hid (Below w.heap.size w w) := Below.refl _ _
  clear ha hb hn
  go_enter Try.func11, Try.ntmps11
  go_wp2_with fail
  go_loopw [13] (fun i u => ∃ j : Nat, i = .int .i64 (j : Nat) ∧ j ≤ n ∧ Hid (Below w.heap.size w u)) (fun i _ => n - (Go.RowKit.intOf i).toNat)
  case atStart => exact ⟨0, rfl, Nat.zero_le _, H0⟩
  case round =>
    obtain ⟨j, rfl, hj, HL⟩ := hrel
    clear H0
    by_cases hlt : j < n
    · have l1 : (j : Int) < (n : Int) := by omega
      obtain ⟨b1, o1, v1, rfl, hv1, c1⟩ := lat_nth HA.out hlt
      obtain ⟨b2, o2, v2, rfl, hv2, c2⟩ := lat_nth HB.out hlt
      rw [hv1] at hv2
      cases hv2
      obtain ⟨x, _, rfl⟩ := List.mem_map.1 (List.mem_of_getElem? hv1)
      have c1' := cell_later HL.out _ _ _ c1
      have c2' := cell_later HL.out _ _ _ c2
      clear c1 c2 hv1
      go_upto_region 6 with fail
      go_region
      go_wp2_with fail
      go_roundw
      case rel => exact ⟨j + 1, by go_num, by omega, below_drew' HL⟩
      case measure => simp [Go.RowKit.intOf]; omega
    · have l1 : ¬ (j : Int) < (n : Int) := by omega
      go_wp2_with fail
      go_ret
      exact ⟨rfl, HL.out⟩
set_option maxRecDepth 8000 in
set_option maxHeartbeats 1000000 in
theorem sameTexts_any {w : World} {Va Vb : Value} {l : List (Nat × List UInt8)} (ha : LAt w Va (lnS l)) (hb : LAt w Vb (lnS l)) (hl : l.length ≤ 1000000000) : Calls Try.prog 10 #[Va, Vb] w fun e w' => e = .returned (.bool true) ∧ Below w.heap.size w w' := by
  obtain ⟨aa, ca, rfl⟩ := lat_len ha
  obtain ⟨ab, cb, rfl⟩ := lat_len hb
  have hll : (lnS l).length = l.length := by simp [lnS]
  rw [hll] at ha hb ⊢
  obtain ⟨n, hn⟩ : ∃ n, l.length = n := ⟨_, rfl⟩
  rw [hn] at ha hb hl ⊢
  have HA : Hid (LAt w (.slice aa n ca) (lnS l)) := ha
  have HB : Hid (LAt w (.slice ab n cb) (lnS l)) := hb
  have H0 : Hid (Below w.heap.size w w) := Below.refl _ _
  clear ha hb hn hll
  go_enter Try.func10, Try.ntmps10
  go_wp2_with fail
  go_loopw [13] (fun i u => ∃ j : Nat, i = .int .i64 (j : Nat) ∧ j ≤ n ∧ Hid (Below w.heap.size w u)) (fun i _ => n - (Go.RowKit.intOf i).toNat)
  case atStart => exact ⟨0, rfl, Nat.zero_le _, H0⟩
  case round =>
    obtain ⟨j, rfl, hj, HL⟩ := hrel
    clear H0
    by_cases hlt : j < n
    · have l1 : (j : Int) < (n : Int) := by omega
      obtain ⟨b1, o1, v1, rfl, hv1, c1⟩ := lat_nth HA.out hlt
      obtain ⟨b2, o2, v2, rfl, hv2, c2⟩ := lat_nth HB.out hlt
      rw [hv1] at hv2
      cases hv2
      obtain ⟨x, _, rfl⟩ := List.mem_map.1 (List.mem_of_getElem? hv1)
      have c1' := cell_later HL.out _ _ _ c1
      have c2' := cell_later HL.out _ _ _ c2
      clear c1 c2 hv1
      go_upto_region 6 with fail
      go_region
      go_wp2_with fail
      go_roundw
      case rel => exact ⟨j + 1, by go_num, by omega, below_drew' HL⟩
      case measure => simp [Go.RowKit.intOf]; omega
    · have l1 : ¬ (j : Int) < (n : Int) := by omega
      go_wp2_with fail
      go_ret
      exact ⟨rfl, HL.out⟩
end Go.Proofs.Ytobbcgendjakiaa
