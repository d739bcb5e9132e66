/- simfs.mayBe, strings.Clone, slices.Clone of bytes. -/
import Derived.Test.YtpikepifhnkmkaaG07
import Derived.Test.YtpikepifhnkmkaaG09
import Derived.Lib.SliceRun
import Derived.Laws.Pointers
namespace Go.Proofs.Ytpikepifhnkmkaa
open Go.RowKit Go.Maps Sf
attribute [local go_sem ↓] Go.wp_at_zero Go.wp_at_succ

theorem below_app {w u v : World} {q : Option Nat} (h : Below w.heap.size w u) (hg : u.grownBy v q) (hq : ∀ k, q = some k → w.heap.size ≤ k) : Below w.heap.size w v :=
  ⟨hg.os.trans h.os, hg.tape.trans h.tape, hg.output.trans h.output, Nat.le_trans h.size hg.size, fun k hk => (hg.block k (Nat.lt_of_lt_of_le hk h.size) (fun e => by have := hq k e.symm; omega)).trans (h.block k hk)⟩
theorem idx_neg : ∀ (l : List UInt8) (c : UInt8), (l.contains c = false → Lib.indexByte l c = -1) ∧ (l.contains c = true → 0 ≤ Lib.indexByte l c)
  | [], c => by simp [Lib.indexByte]
  | b :: l, c => by
    have ih := idx_neg l c
    have hg := Lib.indexByte_ge l c
    rw [List.contains_cons]
    unfold Lib.indexByte
    by_cases e : b == c
    · have e2 : (c == b) = true := by rw [beq_iff_eq] at e ⊢; exact e.symm
      simp [e, e2]
    · have e2 : (c == b) = false := by
        rw [Bool.eq_false_iff]
        intro h
        rw [beq_iff_eq] at h
        exact e (by rw [beq_iff_eq]; exact h.symm)
      rw [e2, Bool.false_or]
      simp only [e, Bool.false_eq_true, if_false]
      refine ⟨fun h => ?_, fun h => ?_⟩
      · rw [ih.1 h]; rfl
      · have := ih.2 h
        have hn : (Lib.indexByte l c == -1) = false := by
          rw [Bool.eq_false_iff]
          intro h2
          rw [beq_iff_eq] at h2
          omega
        rw [hn]
        simp only [Bool.false_eq_true, if_false]
        omega
set_option maxRecDepth 8000 in
set_option maxHeartbeats 400000 in
theorem mayBe_any (s : ByteArray) (w : World) (hs : s.size ≤ maxLen) : Calls Try.prog 25 #[.string s] w fun e w' => e = .returned (.bool (may s)) ∧ w' = w := by
  unfold maxLen at hs
  have H0 : Hid (Calls Try.prog 40 #[.string s, .int .u8 0] w _) := Try.strings_IndexByte s 0 w
  have H1 : Hid (Calls Try.prog 40 #[.string s, .int .u8 10] w _) := Try.strings_IndexByte s 10 w
  obtain ⟨i0, hi0⟩ : ∃ i, Lib.indexByte s.data.toList (0 : Int).toNat.toUInt8 = i := ⟨_, rfl⟩
  obtain ⟨i1, hi1⟩ : ∃ i, Lib.indexByte s.data.toList (10 : Int).toNat.toUInt8 = i := ⟨_, rfl⟩
  have n0 := idx_neg s.data.toList 0
  have n1 := idx_neg s.data.toList 10
  have e0 : Lib.indexByte s.data.toList 0 = i0 := hi0
  have e1 : Lib.indexByte s.data.toList 10 = i1 := hi1
  rw [e0] at n0
  rw [e1] at n1
  rw [hi0] at H0
  rw [hi1] at H1
  obtain ⟨r, hr⟩ : ∃ r, may s = r := ⟨_, rfl⟩
  rw [hr]
  unfold may at hr
  obtain ⟨c0, hc0⟩ : ∃ c, s.data.toList.contains 0 = c := ⟨_, rfl⟩
  obtain ⟨c1, hc1⟩ : ∃ c, s.data.toList.contains 10 = c := ⟨_, rfl⟩
  rw [hc0, hc1] at hr
  rw [hc0] at n0
  rw [hc1] at n1
  clear hc0 hc1 hi0 hi1 e0 e1
  by_cases h1 : (1 : Int) ≤ (s.size : Int)
  · by_cases h2 : (s.size : Int) ≤ 32
    · cases c0 with
      | true =>
        have g0 : ¬ i0 < 0 := by have := n0.2 rfl; omega
        have HR : Hid (false = r) := by show _ = _; rw [← hr]; simp
        clear hr n0 n1
        go_enter Try.func25, Try.ntmps25
        go_wp2_with fail
        refine H0.out.mono ?_
        rintro e w2 ⟨rfl, rfl⟩
        go_wp2
        go_ret
        exact ⟨congrArg (fun b => Ending.returned (.bool b)) HR.out, rfl⟩
      | false =>
        have g0 : i0 < 0 := by have := n0.1 rfl; omega
        cases c1 with
        | true =>
          have g1 : ¬ i1 < 0 := by have := n1.2 rfl; omega
          have HR : Hid (decide (i1 < 0) = r) := by show _ = _; rw [← hr, decide_eq_false g1]; simp
          clear hr n0 n1
          go_enter Try.func25, Try.ntmps25
          go_wp2_with fail
          refine H0.out.mono ?_
          rintro e w2 ⟨rfl, rfl⟩
          go_wp2_with fail
          refine H1.out.mono ?_
          rintro e w2 ⟨rfl, rfl⟩
          go_wp2
          go_ret
          exact ⟨congrArg (fun b => Ending.returned (.bool b)) HR.out, rfl⟩
        | false =>
          have g1 : i1 < 0 := by have := n1.1 rfl; omega
          have HR : Hid (true = r) := by show _ = _; rw [← hr]; simp; omega
          clear hr n0 n1
          go_enter Try.func25, Try.ntmps25
          go_wp2_with fail
          refine H0.out.mono ?_
          rintro e w2 ⟨rfl, rfl⟩
          go_wp2_with fail
          refine H1.out.mono ?_
          rintro e w2 ⟨rfl, rfl⟩
          go_wp2
          go_ret
          exact ⟨congrArg (fun b => Ending.returned (.bool b)) HR.out, rfl⟩
    · have HR : Hid (false = r) := by show _ = _; rw [← hr]; simp; omega
      clear hr n0 n1
      go_enter Try.func25, Try.ntmps25
      go_wp2
      go_ret
      exact ⟨congrArg (fun b => Ending.returned (.bool b)) HR.out, rfl⟩
  · have HR : Hid (false = r) := by show _ = _; rw [← hr]; simp; omega
    clear hr n0 n1
    go_enter Try.func25, Try.ntmps25
    go_wp2
    go_ret
    exact ⟨congrArg (fun b => Ending.returned (.bool b)) HR.out, rfl⟩
set_option maxRecDepth 8000 in
theorem sclone_any (s : ByteArray) (w : World) (hs : s.size ≤ 281474976710656) : Calls Try.prog 22 #[.string s] w fun e w' => e = .returned (.string s) ∧ Below w.heap.size w w' := by
  have H0 : Hid (Calls Try.prog 37 #[.string s] w _) := Try.stringslite_Clone s w hs
  go_enter Try.func22, Try.ntmps22
  go_wp2_with fail
  refine H0.out.mono ?_
  rintro e w2 ⟨rfl, hb⟩
  go_wp2
  go_ret
  exact ⟨rfl, hb⟩
end Go.Proofs.Ytpikepifhnkmkaa
