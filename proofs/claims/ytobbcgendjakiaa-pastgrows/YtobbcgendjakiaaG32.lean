/- past: New, Gens, Arrivals; the references' New. -/
import Derived.Test.YtobbcgendjakiaaG30
import Derived.Test.YtobbcgendjakiaaG19
import Derived.Carry
namespace Go.Proofs.Ytobbcgendjakiaa
open Go.RowKit Go.Maps Sf
attribute [local go_sem ↓] Go.wp_at_zero Go.wp_at_succ

theorem infI3 : (Try.prog.info? 3).map (fun i => (i.zero, i.size, i.bytes)) = some (some (.int .i64 0), 1, 8) := by kernel_rfl
theorem ints_one (l : List Int) : ∀ u ∈ ints l, u.oneCell' = true := fun u hu => by obtain ⟨z, _, rfl⟩ := List.mem_map.1 hu; rfl
set_option maxRecDepth 8000 in
set_option maxHeartbeats 800000 in
theorem pnew_any (w : World) : Calls Try.prog 19 #[] w fun e w' => ∃ B P, e = .returned (.pointer (some ⟨B, 0, none⟩)) ∧ Pst P w' B Pv.new 0 ∧ (∀ k, P k → w.heap.size ≤ k) ∧ Below w.heap.size w w' := by
  obtain ⟨A, hA⟩ : ∃ A, w.heap.size = A := ⟨_, rfl⟩
  obtain ⟨w1, hw1⟩ : ∃ w1, w.alloc (.map #[] 0) = w1 := ⟨_, rfl⟩
  obtain ⟨w2, hw2⟩ : ∃ w2, w1.alloc (.map #[] 0) = w2 := ⟨_, rfl⟩
  obtain ⟨w3, hw3⟩ : ∃ w3, w2.alloc (.map #[] 0) = w3 := ⟨_, rfl⟩
  obtain ⟨w4, hw4⟩ : ∃ w4, w3.alloc (.cells #[.map (some A), .map (some (A + 1)), .map (some (A + 2))] 77) = w4 := ⟨_, rfl⟩
  have z1 : w1.heap.size = A + 1 := by rw [← hw1, ← hA]; simp
  have z2 : w2.heap.size = A + 2 := by rw [← hw2]; simp [z1]
  have z3 : w3.heap.size = A + 3 := by rw [← hw3]; simp [z2]
  have z4 : w4.heap.size = A + 4 := by rw [← hw4]; simp [z3]
  have k1 : Below w.heap.size w w1 := by rw [← hw1]; exact (Below.refl _ _).alloc (Nat.le_refl _) _
  have k2 : Below w1.heap.size w1 w2 := by rw [← hw2]; exact (Below.refl _ _).alloc (Nat.le_refl _) _
  have k3 : Below w2.heap.size w2 w3 := by rw [← hw3]; exact (Below.refl _ _).alloc (Nat.le_refl _) _
  have k4 : Below w3.heap.size w3 w4 := by rw [← hw4]; exact (Below.refl _ _).alloc (Nat.le_refl _) _
  have m1 : MapB 79 kvG goodG (.slice none 0 0) w4 A 0 (fun _ => none) := by
    have h := mapB_made w 79 kvG goodG (.slice none 0 0)
    rw [hw1, hA] at h
    exact ((h.same (k2.block A (by omega))).same (k3.block A (by omega))).same (k4.block A (by omega))
  have m2 : MapB 3 kvI goodI (.int .i64 0) w4 (A + 1) 0 (fun _ => none) := by
    have h := mapB_made w1 3 kvI goodI (.int .i64 0)
    rw [hw2, z1] at h
    exact (h.same (k3.block (A + 1) (by omega))).same (k4.block (A + 1) (by omega))
  have m3 : MapB 9 kvS goodS labZ w4 (A + 2) 0 (fun _ => none) := by
    have h := mapB_made w2 9 kvS goodS labZ
    rw [hw3, z2] at h
    exact h.same (k4.block (A + 2) (by omega))
  have db : w4.heap[A + 3]? = some (.cells #[.map (some A), .map (some (A + 1)), .map (some (A + 2))] 77 (0, 0)) := by
    have h := heap_alloc_new w3 (.cells #[.map (some A), .map (some (A + 1)), .map (some (A + 2))] 77)
    rw [hw4, z3] at h
    exact h
  have HE : Hid (∃ B P, Ending.returned (.pointer (some ⟨A + 3, 0, none⟩)) = .returned (.pointer (some ⟨B, 0, none⟩)) ∧ Pst P w4 B Pv.new 0 ∧ (∀ k, P k → w.heap.size ≤ k) ∧ Below w.heap.size w w4) := by
    refine ⟨A + 3, fun k => A ≤ k ∧ k < A + 4, rfl, ⟨⟨fun _ => Nat.zero_le _, fun _ => Nat.zero_le _, fun _ => ⟨Nat.zero_le _, Nat.le_refl _⟩⟩, ⟨⟨A, A + 1, A + 2, 0, 0, 0, fun _ => none, fun _ => none⟩, ?_, Nat.le_refl _, Nat.le_refl _, Nat.le_refl _⟩, by omega⟩, fun k hk => by omega, below_step (below_step (below_step k1 k2) k3) k4⟩
    refine ⟨db, m1, m2, m3, (fun _ _ hf => nomatch hf), fun _ _ => rfl, (fun _ _ hf => nomatch hf), fun _ _ => rfl, ⟨⟨by omega, by omega⟩, ⟨by show A ≤ A; omega, by show A < A + 4; omega⟩, ⟨by show A ≤ A + 1; omega, by show A + 1 < A + 4; omega⟩, ⟨by show A ≤ A + 2; omega, by show A + 2 < A + 4; omega⟩⟩, (fun _ _ _ hf => nomatch hf), (fun _ _ _ hf => nomatch hf), fun k hk => by omega, (fun _ _ _ _ _ hf => nomatch hf), (fun _ _ _ _ _ hf => nomatch hf), by show A ≠ A + 1; omega, by show A ≠ A + 2; omega, by show A + 1 ≠ A + 2; omega⟩
  have HW : Hid (w.alloc (.map #[] 0) = w1 ∧ w1.alloc (.map #[] 0) = w2 ∧ w2.alloc (.map #[] 0) = w3 ∧ w3.alloc (.cells #[.map (some A), .map (some (A + 1)), .map (some (A + 2))] 77) = w4 ∧ w.heap.size = A ∧ w1.heap.size = A + 1 ∧ w2.heap.size = A + 2 ∧ w3.heap.size = A + 3) := ⟨hw1, hw2, hw3, hw4, hA, z1, z2, z3⟩
  clear hw1 hw2 hw3 hw4 hA z1 z2 z3 z4 k1 k2 k3 k4 m1 m2 m3 db
  have q1 : (Instr.makeMap 73 none).run Try.prog w = .ok (.map (some A)) w1 := by rw [← HW.out.1, ← HW.out.2.2.2.2.1]; exact run_makeMap _ w
  have q2 : (Instr.makeMap 74 none).run Try.prog w1 = .ok (.map (some (A + 1))) w2 := by rw [← HW.out.2.1, ← HW.out.2.2.2.2.2.1]; exact run_makeMap _ w1
  have q3 : (Instr.makeMap 75 none).run Try.prog w2 = .ok (.map (some (A + 2))) w3 := by rw [← HW.out.2.2.1, ← HW.out.2.2.2.2.2.2.1]; exact run_makeMap _ w2
  go_enter Try.func19, Try.ntmps19
  go_wp2
  rw [HW.out.2.2.2.1, HW.out.2.2.2.2.2.2.2]
  go_ret
  exact HE.out
set_option maxRecDepth 8000 in
theorem gens_any {P : Nat → Prop} {w : World} {B C : Nat} {p : Pv} (h : Pst P w B p C) (n : Int) (hn : goodI n) : Calls Try.prog 16 #[.pointer (some ⟨B, 0, none⟩), .int .i64 n] w fun e w' => e = .returned (.int .i64 (p.gn n : Nat)) ∧ w' = w := by
  obtain ⟨L, hL, _⟩ := h.m
  obtain ⟨_, c1, _⟩ := hL.cells
  have hg := hL.gnm.get lawI (mt := 74) (e := 3) (by kernel_rfl) (by kernel_rfl) hn (keyI n hn)
  have hv : ((gnF p n).getD (.int .i64 0)) = .int .i64 (p.gn n : Nat) := by
    unfold gnF
    split
    · rename_i e; rw [e]; rfl
    · rfl
  rw [hv] at hg
  have hg : (Instr.lookup 74 (.map (some L.mg)) (.int .i64 n) false).run Try.prog w = .ok (.int .i64 (p.gn n : Nat)) w := hg
  clear hL h hv
  go_enter Try.func16, Try.ntmps16
  go_wp2
  go_ret
  exact ⟨rfl, rfl⟩
set_option maxRecDepth 8000 in
set_option maxHeartbeats 400000 in
theorem iclone_any {w : World} {V : Value} {l : List Int} (h : OwnI w V l) (hl : l.length ≤ 1000000000) : Calls Try.prog 32 #[V] w fun e w' => ∃ V', e = .returned V' ∧ w'.ownsRow w.heap.size 3 1 V' l.length (ints l) ∧ Below w.heap.size w w' := by
  have HL : Hid (LAt w V (ints l)) := owns_lat h
  rcases h.2 with ⟨rfl, h0⟩ | ⟨g, cap, cur, rfl, hg⟩
  · have hl0 : l = [] := List.eq_nil_of_length_eq_zero h0
    subst hl0
    clear h hl h0 HL
    have q : (binOp .eql 34 (.slice none 0 0) (.slice none 0 0)).run Try.prog w = .ok (.bool true) w := Lib.run_eql_slice_nil w _ 3 none 0 0 0 0 (by kernel_rfl)
    go_enter Try.func32, Try.ntmps32
    go_wp2
    go_ret
    exact ⟨_, rfl, owns_nil _ _ _, Below.refl _ _⟩
  · have HB : Hid (Below w.heap.size w (w.alloc (.cells #[] 3))) := (Below.refl _ _).alloc (Nat.le_refl _) _
    have HL2 : Hid (LAt (w.alloc (.cells #[] 3)) (.slice (some ⟨g, 0, none⟩) l.length cap) (ints l)) := HL.out.later HB.out
    have HO : Hid ((w.alloc (.cells #[] 3)).ownsRow w.heap.size 3 1 (.slice (some ⟨w.heap.size, 0, none⟩) 0 0) 0 []) := ⟨rfl, .inr ⟨w.heap.size, 0, #[], rfl, Nat.le_refl _, heap_alloc_new w _, Nat.le_refl _, by decide, rfl, rfl⟩⟩
    have HUL : Hid ((ints l).length = l.length) := ints_len l
    obtain ⟨n, hn⟩ : ∃ n, l.length = n := ⟨_, rfl⟩
    rw [hn] at HL2 HL HUL hl ⊢
    clear h hg hn HL
    have q : (binOp .eql 34 (.slice (some ⟨g, 0, none⟩) n cap) (.slice none 0 0)).run Try.prog w = .ok (.bool false) w := Lib.run_eql_slice_nil w _ 3 (some ⟨g, 0, none⟩) n cap 0 0 (by kernel_rfl)
    go_enter Try.func32, Try.ntmps32
    go_wp2_with (refine wpList_append_lat rfl (.tmp 5) (.tmp 6) rfl (.int .i64 0) 8 (by kernel_rfl) infI3 rfl w.heap.size _ 0 [] rfl HO.out _ (ints l) rfl HL2.out (ints_one l) (by rw [HUL.out]; unfold maxLen; omega) (by rw [HUL.out]; omega) HB.out.size ?_; intro V' w' ho hgr hnl hh; rw [HUL.out, Nat.zero_add, List.nil_append] at ho; have HE : Hid (Below w.heap.size w w') := below_app HB.out hgr (fun k e => by have e2 : some w.heap.size = some k := e; injection e2 with e2; omega); clear hnl hgr hh; obtain ⟨v1, v2, rfl⟩ := own_form ho)
    go_ret
    exact ⟨_, rfl, ho, HE.out⟩
theorem field_lab (x y : Value) (w : World) : (Instr.field 83 (.agg #[x, y]) 1).run Try.prog w = .ok y w := by
  simp [Instr.field, asAgg, go_sem]
set_option maxRecDepth 8000 in
theorem arrivals_any {P : Nat → Prop} {w : World} {B C : Nat} {p : Pv} (h : Pst P w B p C) (s : ByteArray) (hs : s.size ≤ maxLen) : Calls Try.prog 9 #[.pointer (some ⟨B, 0, none⟩), .string s] w fun e w' => ∃ V, e = .returned V ∧ w'.ownsRow w.heap.size 3 1 V (p.lb s).2.length (ints (p.lb s).2) ∧ Below w.heap.size w w' := by
  obtain ⟨L, hL, _⟩ := h.m
  obtain ⟨_, _, c2⟩ := hL.cells
  have hg := hL.lbm.get lawS (mt := 75) (e := 83) (by kernel_rfl) (by kernel_rfl) (k := s) hs (keyS s hs)
  obtain ⟨q, V, hv, hV⟩ : ∃ q V, ((lbF p L s).getD labZ) = .agg #[.int .i64 q, V] ∧ OwnI w V (p.lb s).2 := by
    unfold lbF
    cases e : L.lv s with
    | none => exact ⟨0, .slice none 0 0, rfl, by rw [hL.ln s e]; exact owns_nil _ _ _⟩
    | some V => exact ⟨_, V, rfl, hL.lx s V e⟩
  rw [hv] at hg
  have hg : (Instr.lookup 75 (.map (some L.mn)) (.string s) false).run Try.prog w = .ok (.agg #[.int .i64 q, V]) w := hg
  have HC : Hid (Calls Try.prog 32 #[V] w _) := iclone_any hV (by have := (h.ok.lb s).2; have := h.c; omega)
  obtain ⟨va, vc, rfl, _⟩ := hV.form
  have hfd : (Instr.field 83 (.agg #[.int .i64 q, .slice va (p.lb s).2.length vc]) 1).run Try.prog w = .ok (.slice va (p.lb s).2.length vc) w := field_lab _ _ w
  clear hL h hv hV
  go_enter Try.func9, Try.ntmps9
  go_wp2_with fail
  refine HC.out.mono ?_
  rintro e w' ⟨V', rfl, ho, hb⟩
  obtain ⟨v1, v2, rfl⟩ := own_form ho
  clear HC
  go_wp2_with fail
  go_ret
  exact ⟨_, rfl, ho, hb⟩
set_option maxRecDepth 8000 in
theorem rnew14_any (w : World) : Calls Try.prog 22 #[] w fun e w' => ∃ b, e = .returned (.pointer (some ⟨b, 0, none⟩)) ∧ Below w.heap.size w w' := by
  have HB : Hid (∀ ob, Below w.heap.size w (w.alloc ob)) := fun ob => (Below.refl _ _).alloc (Nat.le_refl _) _
  go_enter Try.func22, Try.ntmps22
  go_wp2
  go_ret
  exact ⟨_, rfl, HB.out _⟩
set_option maxRecDepth 8000 in
theorem rnew15_any (w : World) : Calls Try.prog 23 #[] w fun e w' => ∃ b, e = .returned (.pointer (some ⟨b, 0, none⟩)) ∧ Below w.heap.size w w' := by
  have HB : Hid (∀ ob, Below w.heap.size w (w.alloc ob)) := fun ob => (Below.refl _ _).alloc (Nat.le_refl _) _
  go_enter Try.func23, Try.ntmps23
  go_wp2
  go_ret
  exact ⟨_, rfl, HB.out _⟩
end Go.Proofs.Ytobbcgendjakiaa
