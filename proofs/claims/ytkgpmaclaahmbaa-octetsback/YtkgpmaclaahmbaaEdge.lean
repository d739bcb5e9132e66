/- Contracts of octets.begins and ends; the rows of a set, as the iterator tells them. -/
import Derived.Test.YtkgpmaclaahmbaaGen
namespace Go.Proofs.Ytkgpmaclaahmbaa
open Go.RowKit

/-- does a row begin at a byte, does one end there? -/
def begins (s : Oct.S) (b : Nat) : Bool := s b && (b == 0 || !(s (b - 1)))
def ends (s : Oct.S) (b : Nat) : Bool := s b && (b == 255 || !(s (b + 1)))
theorem has_int (s : Oct.S) (z : Int) (c : Nat) (w : World) (hz : z = (c : Int)) (hc : c < 256) : Calls Try.prog 11 #[.agg #[.int .u64 (Oct.word s 0 : Nat), .int .u64 (Oct.word s 1 : Nat), .int .u64 (Oct.word s 2 : Nat), .int .u64 (Oct.word s 3 : Nat)], .int .u8 z] w fun e w' => e = .returned (.bool (s c)) ∧ Below w.heap.size w w' := by
  rw [hz]
  exact has_any s c w hc
theorem box_facts (w : World) (s : Oct.S) : SB (w.alloc (.cells #[.int .u64 (Oct.word s 0 : Nat), .int .u64 (Oct.word s 1 : Nat), .int .u64 (Oct.word s 2 : Nat), .int .u64 (Oct.word s 3 : Nat)] 24)) w.heap.size s ∧ Below w.heap.size w (w.alloc (.cells #[.int .u64 (Oct.word s 0 : Nat), .int .u64 (Oct.word s 1 : Nat), .int .u64 (Oct.word s 2 : Nat), .int .u64 (Oct.word s 3 : Nat)] 24)) :=
  ⟨sb_new w s, (Below.refl _ _).alloc (Nat.le_refl _) _⟩
set_option maxRecDepth 4000 in
set_option maxHeartbeats 1000000 in
theorem begins_any (s : Oct.S) (b : Nat) (w : World) (hb : b < 256) : Calls Try.prog 29 #[setV s, .int .u8 b] w fun e w' => e = .returned (.bool (begins s b)) ∧ Below w.heap.size w w' := by
  obtain ⟨hbox, hbel⟩ := box_facts w s
  have HX : Hid (SB _ w.heap.size s) := hbox
  have HW : Hid (Below w.heap.size w _) := hbel
  have HR : Hid (∀ v, v = begins s b → Ending.returned (.bool v) = .returned (.bool (begins s b))) := fun v h => by rw [h]
  generalize hR : begins s b = R at HR ⊢
  have HRR : Hid (begins s b = R) := hR
  clear hbox hbel hR
  unfold setV
  go_enter Try.func29, Try.ntmps29
  go_wp2_with fail
  refine (has_int s _ b _ rfl hb).mono ?_
  rintro e w1 ⟨rfl, k1⟩
  have HX1 : Hid (SB w1 w.heap.size s) := HX.out.later k1
  have HW1 : Hid (Below w.heap.size w w1) := below_trans HW.out k1 HW.out.size
  clear k1 HX HW
  obtain ⟨c0, c1, c2, c3⟩ := HX1.out.cells
  cases hs : s b with
  | false =>
    go_wp2
    go_ret
    exact ⟨HR.out _ (by rw [← HRR.out]; simp [begins, hs]), HW1.out⟩
  | true =>
    by_cases h0 : b = 0
    · subst h0
      go_wp2
      go_ret
      exact ⟨HR.out _ (by rw [← HRR.out]; simp [begins, hs]), HW1.out⟩
    · have HS : Hid (s b = true) := hs
      clear hs
      have hi0 : ((b : Int) == 0) = false := by simp; omega
      have hi1 : ¬ (b : Int) = 0 := by omega
      go_wp2_with fail
      refine (has_int s _ (b - 1) _ (by omega) (by omega)).mono ?_
      rintro e w2 ⟨rfl, k2⟩
      have HW2 : Hid (Below w.heap.size w w2) := below_trans HW1.out k2 HW1.out.size
      clear k2
      go_wp2
      go_ret
      exact ⟨HR.out _ (by rw [← HRR.out]; simp [begins, HS.out, h0]), HW2.out⟩
set_option maxRecDepth 4000 in
set_option maxHeartbeats 1000000 in
theorem ends_any (s : Oct.S) (b : Nat) (w : World) (hb : b < 256) : Calls Try.prog 30 #[setV s, .int .u8 b] w fun e w' => e = .returned (.bool (ends s b)) ∧ Below w.heap.size w w' := by
  obtain ⟨hbox, hbel⟩ := box_facts w s
  have HX : Hid (SB _ w.heap.size s) := hbox
  have HW : Hid (Below w.heap.size w _) := hbel
  have HR : Hid (∀ v, v = ends s b → Ending.returned (.bool v) = .returned (.bool (ends s b))) := fun v h => by rw [h]
  generalize hR : ends s b = R at HR ⊢
  have HRR : Hid (ends s b = R) := hR
  clear hbox hbel hR
  unfold setV
  go_enter Try.func30, Try.ntmps30
  go_wp2_with fail
  refine (has_int s _ b _ rfl hb).mono ?_
  rintro e w1 ⟨rfl, k1⟩
  have HX1 : Hid (SB w1 w.heap.size s) := HX.out.later k1
  have HW1 : Hid (Below w.heap.size w w1) := below_trans HW.out k1 HW.out.size
  clear k1 HX HW
  obtain ⟨c0, c1, c2, c3⟩ := HX1.out.cells
  cases hs : s b with
  | false =>
    go_wp2
    go_ret
    exact ⟨HR.out _ (by rw [← HRR.out]; simp [ends, hs]), HW1.out⟩
  | true =>
    by_cases h0 : b = 255
    · subst h0
      go_wp2
      go_ret
      exact ⟨HR.out _ (by rw [← HRR.out]; simp [ends, hs]), HW1.out⟩
    · have HS : Hid (s b = true) := hs
      clear hs
      have hi0 : ((b : Int) == 255) = false := by simp; omega
      have hi1 : ¬ (b : Int) = 255 := by omega
      have hb2 : b < 255 := by omega
      go_wp2_with fail
      refine (has_int s _ (b + 1) _ (by omega) (by omega)).mono ?_
      rintro e w2 ⟨rfl, k2⟩
      have HW2 : Hid (Below w.heap.size w w2) := below_trans HW1.out k2 HW1.out.size
      clear k2
      go_wp2
      go_ret
      exact ⟨HR.out _ (by rw [← HRR.out]; simp [ends, HS.out, h0]), HW2.out⟩
end Go.Proofs.Ytkgpmaclaahmbaa
