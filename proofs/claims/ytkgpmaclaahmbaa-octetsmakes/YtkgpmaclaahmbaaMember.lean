/- Contracts of the document's in and member of layer 3: by walking their bodies, name by name. -/
import Derived.Test.YtkgpmaclaahmbaaClass
namespace Go.Proofs.Ytkgpmaclaahmbaa
open Go.RowKit

/-- from one number to another -/
def spanI (f t b : Int) : Bool := decide (f ≤ b) && decide (b ≤ t)
theorem span_i (f t b : Nat) : Oct.span f t b = spanI f t b := by
  simp only [Oct.span, spanI]
  rw [Bool.eq_iff_iff]
  simp
theorem in_any (b f t : Int) (w : World) : Calls Try.prog 36 #[.int .i64 b, .int .i64 f, .int .i64 t] w fun e w' => e = .returned (.bool (spanI f t b)) ∧ w' = w := by
  by_cases h1 : f ≤ b
  · by_cases h2 : b ≤ t
    · go_enter Try.func36, Try.ntmps36
      go_wp2
      go_ret
      exact ⟨ret_bool (by simp [spanI, h1, h2]), rfl⟩
    · go_enter Try.func36, Try.ntmps36
      go_wp2
      go_ret
      exact ⟨ret_bool (by simp [spanI, h2]), rfl⟩
  · go_enter Try.func36, Try.ntmps36
    go_wp2
    go_ret
    exact ⟨ret_bool (by simp [spanI]; omega), rfl⟩
/-- what member says of a byte of a class -/
def told (x : Bool) : Int := if x then 1 else 0
set_option maxHeartbeats 2000000 in
theorem member_alpha (b : Nat) (w : World) : Calls Try.prog 35 #[.string ⟨#[97, 108, 112, 104, 97]⟩, .int .i64 b] w fun e w' => e = .returned (.int .i64 (told (alpha b))) ∧ w' = w := by
  have HT : Hid (∀ x : Int, (x = told (alpha b)) → Ending.returned (.int .i64 x) = .returned (.int .i64 (told (alpha b)))) := fun x h => by rw [h]
  generalize hT : told (alpha b) = T at HT ⊢
  have HT2 : Hid (told (alpha b) = T) := hT
  clear hT
  go_enter Try.func35, Try.ntmps35
  go_wp2_with (go_at_call 36; refine (in_any _ _ _ _).mono ?_; rintro e w1 ⟨rfl, rfl⟩)
  all_goals
    have hT := HT2.out
    simp only [told, alpha, upper, lower, span_i] at hT
    go_ret
    refine ⟨HT.out _ ?_, rfl⟩
    rw [← hT]
    clear hT HT HT2
    simp_all
set_option maxHeartbeats 2000000 in
theorem member_digit (b : Nat) (w : World) : Calls Try.prog 35 #[.string ⟨#[100, 105, 103, 105, 116]⟩, .int .i64 b] w fun e w' => e = .returned (.int .i64 (told (digit b))) ∧ w' = w := by
  have HT : Hid (∀ x : Int, (x = told (digit b)) → Ending.returned (.int .i64 x) = .returned (.int .i64 (told (digit b)))) := fun x h => by rw [h]
  generalize hT : told (digit b) = T at HT ⊢
  have HT2 : Hid (told (digit b) = T) := hT
  clear hT
  go_enter Try.func35, Try.ntmps35
  go_wp2_with (go_at_call 36; refine (in_any _ _ _ _).mono ?_; rintro e w1 ⟨rfl, rfl⟩)
  all_goals
    have hT := HT2.out
    simp only [told, digit, span_i] at hT
    go_ret
    refine ⟨HT.out _ ?_, rfl⟩
    rw [← hT]
    clear hT HT HT2
    simp_all
set_option maxHeartbeats 2000000 in
theorem member_alnum (b : Nat) (w : World) : Calls Try.prog 35 #[.string ⟨#[97, 108, 110, 117, 109]⟩, .int .i64 b] w fun e w' => e = .returned (.int .i64 (told (alnum b))) ∧ w' = w := by
  have HT : Hid (∀ x : Int, (x = told (alnum b)) → Ending.returned (.int .i64 x) = .returned (.int .i64 (told (alnum b)))) := fun x h => by rw [h]
  generalize hT : told (alnum b) = T at HT ⊢
  have HT2 : Hid (told (alnum b) = T) := hT
  clear hT
  go_enter Try.func35, Try.ntmps35
  go_wp2_with (go_at_call 36; refine (in_any _ _ _ _).mono ?_; rintro e w1 ⟨rfl, rfl⟩)
  all_goals
    have hT := HT2.out
    simp only [told, alnum, upper, lower, digit, span_i] at hT
    go_ret
    refine ⟨HT.out _ ?_, rfl⟩
    rw [← hT]
    clear hT HT HT2
    simp_all
set_option maxHeartbeats 2000000 in
theorem member_upper (b : Nat) (w : World) : Calls Try.prog 35 #[.string ⟨#[117, 112, 112, 101, 114]⟩, .int .i64 b] w fun e w' => e = .returned (.int .i64 (told (upper b))) ∧ w' = w := by
  have HT : Hid (∀ x : Int, (x = told (upper b)) → Ending.returned (.int .i64 x) = .returned (.int .i64 (told (upper b)))) := fun x h => by rw [h]
  generalize hT : told (upper b) = T at HT ⊢
  have HT2 : Hid (told (upper b) = T) := hT
  clear hT
  go_enter Try.func35, Try.ntmps35
  go_wp2_with (go_at_call 36; refine (in_any _ _ _ _).mono ?_; rintro e w1 ⟨rfl, rfl⟩)
  all_goals
    have hT := HT2.out
    simp only [told, upper, span_i] at hT
    go_ret
    refine ⟨HT.out _ ?_, rfl⟩
    rw [← hT]
    clear hT HT HT2
    simp_all
set_option maxHeartbeats 2000000 in
theorem member_lower (b : Nat) (w : World) : Calls Try.prog 35 #[.string ⟨#[108, 111, 119, 101, 114]⟩, .int .i64 b] w fun e w' => e = .returned (.int .i64 (told (lower b))) ∧ w' = w := by
  have HT : Hid (∀ x : Int, (x = told (lower b)) → Ending.returned (.int .i64 x) = .returned (.int .i64 (told (lower b)))) := fun x h => by rw [h]
  generalize hT : told (lower b) = T at HT ⊢
  have HT2 : Hid (told (lower b) = T) := hT
  clear hT
  go_enter Try.func35, Try.ntmps35
  go_wp2_with (go_at_call 36; refine (in_any _ _ _ _).mono ?_; rintro e w1 ⟨rfl, rfl⟩)
  all_goals
    have hT := HT2.out
    simp only [told, lower, span_i] at hT
    go_ret
    refine ⟨HT.out _ ?_, rfl⟩
    rw [← hT]
    clear hT HT HT2
    simp_all
set_option maxHeartbeats 2000000 in
theorem member_xdigit (b : Nat) (w : World) : Calls Try.prog 35 #[.string ⟨#[120, 100, 105, 103, 105, 116]⟩, .int .i64 b] w fun e w' => e = .returned (.int .i64 (told (xdigit b))) ∧ w' = w := by
  have HT : Hid (∀ x : Int, (x = told (xdigit b)) → Ending.returned (.int .i64 x) = .returned (.int .i64 (told (xdigit b)))) := fun x h => by rw [h]
  generalize hT : told (xdigit b) = T at HT ⊢
  have HT2 : Hid (told (xdigit b) = T) := hT
  clear hT
  go_enter Try.func35, Try.ntmps35
  go_wp2_with (go_at_call 36; refine (in_any _ _ _ _).mono ?_; rintro e w1 ⟨rfl, rfl⟩)
  all_goals
    have hT := HT2.out
    simp only [told, xdigit, digit, span_i] at hT
    go_ret
    refine ⟨HT.out _ ?_, rfl⟩
    rw [← hT]
    clear hT HT HT2
    simp_all
set_option maxHeartbeats 2000000 in
theorem member_blank (b : Nat) (w : World) : Calls Try.prog 35 #[.string ⟨#[98, 108, 97, 110, 107]⟩, .int .i64 b] w fun e w' => e = .returned (.int .i64 (told (blank b))) ∧ w' = w := by
  have HT : Hid (∀ x : Int, (x = told (blank b)) → Ending.returned (.int .i64 x) = .returned (.int .i64 (told (blank b)))) := fun x h => by rw [h]
  generalize hT : told (blank b) = T at HT ⊢
  have HT2 : Hid (told (blank b) = T) := hT
  clear hT
  have i9 : ((b : Int) == 9) = decide (b = 9) := by rw [Bool.eq_iff_iff]; simp; omega
  have i32 : ((b : Int) == 32) = decide (b = 32) := by rw [Bool.eq_iff_iff]; simp; omega
  go_enter Try.func35, Try.ntmps35
  go_wp2_with (go_at_call 36; refine (in_any _ _ _ _).mono ?_; rintro e w1 ⟨rfl, rfl⟩)
  all_goals
    have hT := HT2.out
    simp only [told, blank] at hT
    go_ret
    refine ⟨HT.out _ ?_, rfl⟩
    rw [← hT]
    clear hT HT HT2
    simp_all
set_option maxHeartbeats 2000000 in
theorem member_space (b : Nat) (w : World) : Calls Try.prog 35 #[.string ⟨#[115, 112, 97, 99, 101]⟩, .int .i64 b] w fun e w' => e = .returned (.int .i64 (told (space b))) ∧ w' = w := by
  have HT : Hid (∀ x : Int, (x = told (space b)) → Ending.returned (.int .i64 x) = .returned (.int .i64 (told (space b)))) := fun x h => by rw [h]
  generalize hT : told (space b) = T at HT ⊢
  have HT2 : Hid (told (space b) = T) := hT
  clear hT
  have i32 : ((b : Int) == 32) = decide (b = 32) := by rw [Bool.eq_iff_iff]; simp; omega
  go_enter Try.func35, Try.ntmps35
  go_wp2_with (go_at_call 36; refine (in_any _ _ _ _).mono ?_; rintro e w1 ⟨rfl, rfl⟩)
  all_goals
    have hT := HT2.out
    simp only [told, space, span_i] at hT
    go_ret
    refine ⟨HT.out _ ?_, rfl⟩
    rw [← hT]
    clear hT HT HT2
    simp_all
set_option maxHeartbeats 2000000 in
theorem member_cntrl (b : Nat) (w : World) : Calls Try.prog 35 #[.string ⟨#[99, 110, 116, 114, 108]⟩, .int .i64 b] w fun e w' => e = .returned (.int .i64 (told (cntrl b))) ∧ w' = w := by
  have HT : Hid (∀ x : Int, (x = told (cntrl b)) → Ending.returned (.int .i64 x) = .returned (.int .i64 (told (cntrl b)))) := fun x h => by rw [h]
  generalize hT : told (cntrl b) = T at HT ⊢
  have HT2 : Hid (told (cntrl b) = T) := hT
  clear hT
  have i127 : ((b : Int) == 127) = decide (b = 127) := by rw [Bool.eq_iff_iff]; simp; omega
  go_enter Try.func35, Try.ntmps35
  go_wp2_with (go_at_call 36; refine (in_any _ _ _ _).mono ?_; rintro e w1 ⟨rfl, rfl⟩)
  all_goals
    have hT := HT2.out
    simp only [told, cntrl] at hT
    go_ret
    refine ⟨HT.out _ ?_, rfl⟩
    rw [← hT]
    clear hT HT HT2
    rcases Nat.lt_or_ge b 32 with h1 | h1
    · first | omega | (simp_all; done)
    · have h2 : ¬ b < 32 := by omega
      by_cases h3 : b = 127
      · first | omega | (simp_all; done)
      · first | omega | (simp_all; done)
set_option maxHeartbeats 2000000 in
theorem member_graph (b : Nat) (w : World) : Calls Try.prog 35 #[.string ⟨#[103, 114, 97, 112, 104]⟩, .int .i64 b] w fun e w' => e = .returned (.int .i64 (told (graph b))) ∧ w' = w := by
  have HT : Hid (∀ x : Int, (x = told (graph b)) → Ending.returned (.int .i64 x) = .returned (.int .i64 (told (graph b)))) := fun x h => by rw [h]
  generalize hT : told (graph b) = T at HT ⊢
  have HT2 : Hid (told (graph b) = T) := hT
  clear hT
  go_enter Try.func35, Try.ntmps35
  go_wp2_with (go_at_call 36; refine (in_any _ _ _ _).mono ?_; rintro e w1 ⟨rfl, rfl⟩)
  all_goals
    have hT := HT2.out
    simp only [told, graph, span_i] at hT
    go_ret
    refine ⟨HT.out _ ?_, rfl⟩
    rw [← hT]
    clear hT HT HT2
    simp_all
set_option maxHeartbeats 2000000 in
theorem member_print (b : Nat) (w : World) : Calls Try.prog 35 #[.string ⟨#[112, 114, 105, 110, 116]⟩, .int .i64 b] w fun e w' => e = .returned (.int .i64 (told (print b))) ∧ w' = w := by
  have HT : Hid (∀ x : Int, (x = told (print b)) → Ending.returned (.int .i64 x) = .returned (.int .i64 (told (print b)))) := fun x h => by rw [h]
  generalize hT : told (print b) = T at HT ⊢
  have HT2 : Hid (told (print b) = T) := hT
  clear hT
  go_enter Try.func35, Try.ntmps35
  go_wp2_with (go_at_call 36; refine (in_any _ _ _ _).mono ?_; rintro e w1 ⟨rfl, rfl⟩)
  all_goals
    have hT := HT2.out
    simp only [told, print, span_i] at hT
    go_ret
    refine ⟨HT.out _ ?_, rfl⟩
    rw [← hT]
    clear hT HT HT2
    simp_all
set_option maxHeartbeats 2000000 in
theorem member_punct (b : Nat) (w : World) : Calls Try.prog 35 #[.string ⟨#[112, 117, 110, 99, 116]⟩, .int .i64 b] w fun e w' => e = .returned (.int .i64 (told (punct b))) ∧ w' = w := by
  have HT : Hid (∀ x : Int, (x = told (punct b)) → Ending.returned (.int .i64 x) = .returned (.int .i64 (told (punct b)))) := fun x h => by rw [h]
  generalize hT : told (punct b) = T at HT ⊢
  have HT2 : Hid (told (punct b) = T) := hT
  clear hT
  go_enter Try.func35, Try.ntmps35
  go_wp2_with (go_at_call 36; refine (in_any _ _ _ _).mono ?_; rintro e w1 ⟨rfl, rfl⟩)
  all_goals
    have hT := HT2.out
    simp only [told, punct, graph, upper, lower, digit, span_i] at hT
    go_ret
    refine ⟨HT.out _ ?_, rfl⟩
    rw [← hT]
    clear hT HT HT2
    simp_all
set_option maxHeartbeats 2000000 in
theorem member_no (n : ByteArray) (b : Nat) (w : World) (halpha : (n.toList == [97, 108, 112, 104, 97]) = false) (hdigit : (n.toList == [100, 105, 103, 105, 116]) = false) (halnum : (n.toList == [97, 108, 110, 117, 109]) = false) (hupper : (n.toList == [117, 112, 112, 101, 114]) = false) (hlower : (n.toList == [108, 111, 119, 101, 114]) = false) (hxdigit : (n.toList == [120, 100, 105, 103, 105, 116]) = false) (hblank : (n.toList == [98, 108, 97, 110, 107]) = false) (hspace : (n.toList == [115, 112, 97, 99, 101]) = false) (hcntrl : (n.toList == [99, 110, 116, 114, 108]) = false) (hgraph : (n.toList == [103, 114, 97, 112, 104]) = false) (hprint : (n.toList == [112, 114, 105, 110, 116]) = false) (hpunct : (n.toList == [112, 117, 110, 99, 116]) = false) : Calls Try.prog 35 #[.string n, .int .i64 b] w fun e w' => e = .returned (.int .i64 (-1)) ∧ w' = w := by
  go_enter Try.func35, Try.ntmps35
  go_wp2_with (go_at_call 36; refine (in_any _ _ _ _).mono ?_; rintro e w1 ⟨rfl, rfl⟩)
  go_ret
  exact ⟨rfl, rfl⟩
end Go.Proofs.Ytkgpmaclaahmbaa
