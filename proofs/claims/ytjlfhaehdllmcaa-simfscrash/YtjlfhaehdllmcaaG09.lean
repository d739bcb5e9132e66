/- simfs.mayBe, strings.Clone, slices.Clone of bytes. -/
import Derived.Test.YtjlfhaehdllmcaaG07
import Derived.Test.YtjlfhaehdllmcaaG08
import Derived.Lib.SliceRun
import Derived.Laws.Pointers
namespace Go.Proofs.Ytjlfhaehdllmcaa
open Go.RowKit Go.Maps Sf
attribute [local go_sem ↓] Go.wp_at_zero Go.wp_at_succ

theorem below_app {w u v : World} {q : Option Nat} (h : Below w.heap.size w u) (hg : u.grownBy v q) (hq : ∀ k, q = some k → w.heap.size ≤ k) : Below w.heap.size w v :=
  ⟨hg.os.trans h.os, hg.tape.trans h.tape, hg.output.trans h.output, Nat.le_trans h.size hg.size, fun k hk => (hg.block k (Nat.lt_of_lt_of_le hk h.size) (fun e => by have := hq k e.symm; omega)).trans (h.block k hk)⟩
theorem idx_neg : ∀ (l : List UInt8) (c : UInt8), (l.contains c = false → Lib.indexByte l c = -1) ∧ (l.contains c = true → 0 ≤ Lib.indexByte l c)
  | [], c => by simp [Lib.indexByte]
  | b :: l, c => by
    have ih := idx_neg l c
    have hg := Lib.indexByte_ge l c
    rw [List.contains_cons]
    unfold Lib.indexByte
    by_cases e : b == c
    · have e2 : (c == b) = true := by rw [beq_iff_eq] at e ⊢; exact e.symm
      simp [e, e2]
    · have e2 : (c == b) = false := by
        rw [Bool.eq_false_iff]
        intro h
        rw [beq_iff_eq] at h
        exact e (by rw [beq_iff_eq]; exact h.symm)
      rw [e2, Bool.false_or]
      simp only [e, Bool.false_eq_true, if_false]
      refine ⟨fun h => ?_, fun h => ?_⟩
      · rw [ih.1 h]; rfl
      · have := ih.2 h
        have hn : (Lib.indexByte l c == -1) = false := by
          rw [Bool.eq_false_iff]
          intro h2
          rw [beq_iff_eq] at h2
          omega
        rw [hn]
        simp only [Bool.false_eq_true, if_false]
        omega
set_option maxRecDepth 8000 in
set_option maxHeartbeats 400000 in
theorem mayBe_any (s : ByteArray) (w : World) (hs : s.size ≤ maxLen) : Calls Try.prog 38 #[.string s] w fun e w' => e = .returned (.bool (may s)) ∧ w' = w := by
  unfold maxLen at hs
  have H0 : Hid (Calls Try.prog 47 #[.string s, .int .u8 0] w _) := Try.strings_IndexByte s 0 w
  have H1 : Hid (Calls Try.prog 47 #[.string s, .int .u8 10] w _) := Try.strings_IndexByte s 10 w
  obtain ⟨i0, hi0⟩ : ∃ i, Lib.indexByte s.data.toList (0 : Int).toNat.toUInt8 = i := ⟨_, rfl⟩
  obtain ⟨i1, hi1⟩ : ∃ i, Lib.indexByte s.data.toList (10 : Int).toNat.toUInt8 = i := ⟨_, rfl⟩
  have n0 := idx_neg s.data.toList 0
  have n1 := idx_neg s.data.toList 10
  have e0 : Lib.indexByte s.data.toList 0 = i0 := hi0
  have e1 : Lib.indexByte s.data.toList 10 = i1 := hi1
  rw [e0] at n0
  rw [e1] at n1
  rw [hi0] at H0
  rw [hi1] at H1
  obtain ⟨r, hr⟩ : ∃ r, may s = r := ⟨_, rfl⟩
  rw [hr]
  unfold may at hr
  obtain ⟨c0, hc0⟩ : ∃ c, s.data.toList.contains 0 = c := ⟨_, rfl⟩
  obtain ⟨c1, hc1⟩ : ∃ c, s.data.toList.contains 10 = c := ⟨_, rfl⟩
  rw [hc0, hc1] at hr
  rw [hc0] at n0
  rw [hc1] at n1
  clear hc0 hc1 hi0 hi1 e0 e1
  by_cases h1 : (1 : Int) ≤ (s.size : Int)
  · by_cases h2 : (s.size : Int) ≤ 32
    · cases c0 with
      | true =>
        have g0 : ¬ i0 < 0 := by have := n0.2 rfl; omega
        have HR : Hid (false = r) := by show _ = _; rw [← hr]; simp
        clear hr n0 n1
        go_enter Try.func38, Try.ntmps38
        go_wp2_with fail
        refine H0.out.mono ?_
        rintro e w2 ⟨rfl, rfl⟩
        go_wp2
        go_ret
        exact ⟨congrArg (fun b => Ending.returned (.bool b)) HR.out, rfl⟩
      | false =>
        have g0 : i0 < 0 := by have := n0.1 rfl; omega
        cases c1 with
        | true =>
          have g1 : ¬ i1 < 0 := by have := n1.2 rfl; omega
          have HR : Hid (decide (i1 < 0) = r) := by show _ = _; rw [← hr, decide_eq_false g1]; simp
          clear hr n0 n1
          go_enter Try.func38, Try.ntmps38
          go_wp2_with fail
          refine H0.out.mono ?_
          rintro e w2 ⟨rfl, rfl⟩
          go_wp2_with fail
          refine H1.out.mono ?_
          rintro e w2 ⟨rfl, rfl⟩
          go_wp2
          go_ret
          exact ⟨congrArg (fun b => Ending.returned (.bool b)) HR.out, rfl⟩
        | false =>
          have g1 : i1 < 0 := by have := n1.1 rfl; omega
          have HR : Hid (true = r) := by show _ = _; rw [← hr]; simp; omega
          clear hr n0 n1
          go_enter Try.func38, Try.ntmps38
          go_wp2_with fail
          refine H0.out.mono ?_
          rintro e w2 ⟨rfl, rfl⟩
          go_wp2_with fail
          refine H1.out.mono ?_
          rintro e w2 ⟨rfl, rfl⟩
          go_wp2
          go_ret
          exact ⟨congrArg (fun b => Ending.returned (.bool b)) HR.out, rfl⟩
    · have HR : Hid (false = r) := by show _ = _; rw [← hr]; simp; omega
      clear hr n0 n1
      go_enter Try.func38, Try.ntmps38
      go_wp2
      go_ret
      exact ⟨congrArg (fun b => Ending.returned (.bool b)) HR.out, rfl⟩
  · have HR : Hid (false = r) := by show _ = _; rw [← hr]; simp; omega
    clear hr n0 n1
    go_enter Try.func38, Try.ntmps38
    go_wp2
    go_ret
    exact ⟨congrArg (fun b => Ending.returned (.bool b)) HR.out, rfl⟩
set_option maxRecDepth 8000 in
theorem sclone_any (s : ByteArray) (w : World) (hs : s.size ≤ 281474976710656) : Calls Try.prog 46 #[.string s] w fun e w' => e = .returned (.string s) ∧ Below w.heap.size w w' := by
  have H0 : Hid (Calls Try.prog 62 #[.string s] w _) := Try.stringslite_Clone s w hs
  go_enter Try.func46, Try.ntmps46
  go_wp2_with fail
  refine H0.out.mono ?_
  rintro e w2 ⟨rfl, hb⟩
  go_wp2
  go_ret
  exact ⟨rfl, hb⟩
set_option maxRecDepth 8000 in
set_option maxHeartbeats 400000 in
theorem bclone_any {w : World} {V : Value} {l : List UInt8} (h : OwnB w V l) (hl : l.length ≤ 1048576) : Calls Try.prog 45 #[V] w fun e w' => ∃ V', e = .returned V' ∧ w'.ownsRow w.heap.size 5 1 V' l.length (uv l) ∧ Below w.heap.size w w' := by
  have HL : Hid (LAt w V (uv l)) := owns_lat h
  rcases h.2 with ⟨rfl, h0⟩ | ⟨g, cap, cur, rfl, hg⟩
  · have hl0 : l = [] := List.eq_nil_of_length_eq_zero h0
    subst hl0
    clear h hl h0 HL
    have q : (binOp .eql 50 (.slice none 0 0) (.slice none 0 0)).run Try.prog w = .ok (.bool true) w := Lib.run_eql_slice_nil w _ 5 none 0 0 0 0 (by kernel_rfl)
    go_enter Try.func45, Try.ntmps45
    go_wp2
    go_ret
    exact ⟨_, rfl, owns_nil _ _ _, Below.refl _ _⟩
  · have HB : Hid (Below w.heap.size w (w.alloc (.cells #[] 5))) := (Below.refl _ _).alloc (Nat.le_refl _) _
    have HL2 : Hid (LAt (w.alloc (.cells #[] 5)) (.slice (some ⟨g, 0, none⟩) l.length cap) (uv l)) := HL.out.later HB.out
    have HO : Hid ((w.alloc (.cells #[] 5)).ownsRow w.heap.size 5 1 (.slice (some ⟨w.heap.size, 0, none⟩) 0 0) 0 []) := ⟨rfl, .inr ⟨w.heap.size, 0, #[], rfl, Nat.le_refl _, heap_alloc_new w _, Nat.le_refl _, by decide, rfl, rfl⟩⟩
    have HUL : Hid ((uv l).length = l.length) := uv_len l
    obtain ⟨n, hn⟩ : ∃ n, l.length = n := ⟨_, rfl⟩
    rw [hn] at HL2 HL HUL hl ⊢
    clear h hg hn HL
    have q : (binOp .eql 50 (.slice (some ⟨g, 0, none⟩) n cap) (.slice none 0 0)).run Try.prog w = .ok (.bool false) w := Lib.run_eql_slice_nil w _ 5 (some ⟨g, 0, none⟩) n cap 0 0 (by kernel_rfl)
    go_enter Try.func45, Try.ntmps45
    go_wp2_with (refine wpList_append_lat rfl (.tmp 5) (.tmp 6) rfl (.int .u8 0) 1 (by kernel_rfl) infB rfl w.heap.size _ 0 [] rfl HO.out _ (uv l) rfl HL2.out (uv_one l) (by rw [HUL.out]; unfold maxLen; omega) (by rw [HUL.out]; omega) HB.out.size ?_; intro V' w' ho hgr hnl hh; rw [HUL.out, Nat.zero_add, List.nil_append] at ho; have HE : Hid (Below w.heap.size w w') := below_app HB.out hgr (fun k e => by have e2 : some w.heap.size = some k := e; injection e2 with e2; omega); clear hgr hnl hh)
    go_ret
    exact ⟨_, rfl, ho, HE.out⟩
end Go.Proofs.Ytjlfhaehdllmcaa
