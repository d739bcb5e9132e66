/- Contracts of octets.Spans (the function value that it answers) and of the statements' own 'known'; octets.marks. -/
import Derived.Test.YtkgpmaclaahmbaaSets1
import Derived.Test.YtkgpmaclaahmbaaSets2
namespace Go.Proofs.Ytkgpmaclaahmbaa
open Go.RowKit

theorem spans_any (s : Oct.S) (w : World) : Calls Try.prog 9 #[setV s] w fun e w' => e = .returned (.func (.func 28) #[] #[.pointer (some ⟨w.heap.size, 0, none⟩)]) ∧ w' = w.alloc (.cells #[.int .u64 (Oct.word s 0 : Nat), .int .u64 (Oct.word s 1 : Nat), .int .u64 (Oct.word s 2 : Nat), .int .u64 (Oct.word s 3 : Nat)] 24) := by
  unfold setV
  go_enter Try.func9, Try.ntmps9
  go_wp2
  go_ret
  exact ⟨rfl, rfl⟩

theorem known_words : setV (Oct.has [97, 99, 97]) = .agg #[.int .u64 0, .int .u64 42949672960, .int .u64 0, .int .u64 0] := by
  unfold setV
  rw [show Oct.word (Oct.has [97, 99, 97]) 0 = 0 from by decide +kernel, show Oct.word (Oct.has [97, 99, 97]) 1 = 42949672960 from by decide +kernel, show Oct.word (Oct.has [97, 99, 97]) 2 = 0 from by decide +kernel, show Oct.word (Oct.has [97, 99, 97]) 3 = 0 from by decide +kernel]
  rfl
theorem known_count (w : World) : Calls Try.prog 14 #[.agg #[.int .u64 0, .int .u64 42949672960, .int .u64 0, .int .u64 0]] w fun e w' => e = .returned (.int .i64 2) ∧ Below w.heap.size w w' := by
  have h := count_any (Oct.has [97, 99, 97]) w
  rw [known_words, show Oct.count (Oct.has [97, 99, 97]) 256 = 2 from by decide +kernel] at h
  exact h
theorem known_has (b : Nat) (v : Bool) (w : World) (hb : b < 256) (hv : Oct.has [97, 99, 97] b = v) : Calls Try.prog 11 #[.agg #[.int .u64 0, .int .u64 42949672960, .int .u64 0, .int .u64 0], .int .u8 b] w fun e w' => e = .returned (.bool v) ∧ Below w.heap.size w w' := by
  have h := has_any (Oct.has [97, 99, 97]) b w hb
  rw [known_words, hv] at h
  exact h
theorem known_spans (w : World) : Calls Try.prog 9 #[.agg #[.int .u64 0, .int .u64 42949672960, .int .u64 0, .int .u64 0]] w fun e w' => (∃ a, e = .returned (.func (.func 28) #[] #[a])) ∧ Below w.heap.size w w' := by
  have h := spans_any (Oct.has [97, 99, 97]) w
  rw [known_words] at h
  refine h.mono ?_
  rintro e w' ⟨rfl, rfl⟩
  exact ⟨⟨_, rfl⟩, (Below.refl _ _).alloc (Nat.le_refl _) _⟩
theorem known_of (w : World) : Calls Try.prog 13 #[.slice (some ⟨w.heap.size, 0, none⟩) 3 3] (w.alloc (.cells #[.int .u8 97, .int .u8 99, .int .u8 97] 5)) fun e w' => e = .returned (.agg #[.int .u64 0, .int .u64 42949672960, .int .u64 0, .int .u64 0]) ∧ Below w.heap.size w w' := by
  refine (of_any _ 3 3 [97, 99, 97] _ rfl (by simp [maxLen]) (bytesAt_new w [97, 99, 97] 5 (0, 0)) (by decide)).mono ?_
  rintro e w' ⟨rfl, hb⟩
  exact ⟨by rw [known_words], below_trans ((Below.refl _ _).alloc (Nat.le_refl _) _) hb (by simp)⟩
set_option maxHeartbeats 400000 in
theorem known_any (w : World) : Calls Try.prog 8 #[] w fun e w' => e = .returned (.bool true) ∧ Below w.heap.size w w' := by
  go_enter Try.func8, Try.ntmps8
  go_wp2_with fail
  refine (known_of _).mono ?_
  rintro e w1 ⟨rfl, hb1⟩
  have HB1 : Hid (Below w.heap.size w w1) := hb1
  clear hb1
  have eq := eq4_same
  have HB2 : Hid (Below w.heap.size w (w1.alloc (.cells #[.int .u64 0, .int .u64 42949672960, .int .u64 0, .int .u64 0] 24))) := HB1.out.alloc HB1.out.size _
  have HC2 : Hid ((w1.alloc (.cells #[.int .u64 0, .int .u64 42949672960, .int .u64 0, .int .u64 0] 24)).heap[w1.heap.size]? = some (.cells #[.int .u64 0, .int .u64 42949672960, .int .u64 0, .int .u64 0] 24 (0, 0))) := heap_alloc_new w1 _
  go_wp2_with fail
  refine (known_count _).mono ?_
  rintro e w2 ⟨rfl, hb2⟩
  have HB3 : Hid (Below w.heap.size w w2) := below_trans HB2.out hb2 HB2.out.size
  have HC3 : Hid (w2.heap[w1.heap.size]? = some (.cells #[.int .u64 0, .int .u64 42949672960, .int .u64 0, .int .u64 0] 24 (0, 0))) := (hb2.block _ (Array.getElem?_eq_some_iff.1 HC2.out).1).trans HC2.out
  clear hb2 HB2 HC2 HB1
  have HD3 : Hid (∀ u, Below w2.heap.size w2 u → u.cell? ⟨w1.heap.size, 0, none⟩ = some (.int .u64 0) ∧ u.cell? ⟨w1.heap.size, 1, none⟩ = some (.int .u64 42949672960) ∧ u.cell? ⟨w1.heap.size, 2, none⟩ = some (.int .u64 0) ∧ u.cell? ⟨w1.heap.size, 3, none⟩ = some (.int .u64 0)) := fun u hu => by
    have h := (hu.block _ (Array.getElem?_eq_some_iff.1 HC3.out).1).trans HC3.out
    refine ⟨?_, ?_, ?_, ?_⟩ <;> simp [World.cell?, h]
  obtain ⟨c0, c1, c2, c3⟩ := HD3.out _ (Below.refl _ _)
  go_wp2_with fail
  refine (known_has 97 true _ (by decide) (by decide)).mono ?_
  rintro e w3 ⟨rfl, hb3⟩
  obtain ⟨d0, d1, d2, d3⟩ := HD3.out _ hb3
  have HB4 : Hid (Below w2.heap.size w2 w3) := hb3
  clear hb3 c0 c1 c2 c3
  go_wp2_with fail
  refine (known_has 98 false _ (by decide) (by decide)).mono ?_
  rintro e w4 ⟨rfl, hb4⟩
  have HB5 : Hid (Below w2.heap.size w2 w4) := below_trans HB4.out hb4 HB4.out.size
  clear hb4 d0 d1 d2 d3
  obtain ⟨d0, d1, d2, d3⟩ := HD3.out _ HB5.out
  go_wp2_with fail
  refine (known_spans _).mono ?_
  rintro e w5 ⟨⟨a, rfl⟩, hb5⟩
  have HB6 : Hid (Below w.heap.size w w5) := below_trans (below_trans HB3.out HB5.out HB3.out.size) hb5 (Nat.le_trans HB3.out.size HB5.out.size)
  clear hb5
  have nf := neq_func
  go_wp2
  go_ret
  exact ⟨rfl, HB6.out⟩
end Go.Proofs.Ytkgpmaclaahmbaa
