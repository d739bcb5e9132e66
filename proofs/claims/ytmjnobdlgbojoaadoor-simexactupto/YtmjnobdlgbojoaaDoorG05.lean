/- slices.Clone of words. -/
import Derived.Test.YtmjnobdlgbojoaaDoorG03
namespace Go.Proofs.YtmjnobdlgbojoaaDoor
open Go.RowKit
attribute [local go_sem ↓] Go.wp_at_zero Go.wp_at_succ

theorem eqNil {t e : TypeId} (h : Tryd.prog.underlying t = some (.slice e)) (a : Addr) (l c : Nat) (w : World) : (binOp .eql t (.slice (some a) l c) (.slice none 0 0)).run Tryd.prog w = .ok (.bool false) w := by
  have h2 : (Op.equalIn (9999 + 1) t (.slice (some a) l c) (.slice none 0 0)).run Tryd.prog w = .ok false w := by
    rw [Op.equalIn]
    simp [run_underlying h]
  have h3 : (Op.equal t (.slice (some a) l c) (.slice none 0 0)).run Tryd.prog w = .ok false w := h2
  simp [binOp, h3]
set_option maxHeartbeats 2000000 in
theorem clone32_any (b off m c : Nat) (vs : List Value) (w : World) (hl : vs.length = m) (hm : 0 < m) (hc : ∀ j u, vs[j]? = some u → w.cell? ⟨b, off + j, none⟩ = some u) (h1 : ∀ u ∈ vs, u.oneCell' = true) (hby : m * 4 ≤ 140737488355328) :
    Calls Tryd.prog 27 #[.slice (some ⟨b, off, none⟩) m c] w fun e w' => ∃ g cap, e = .returned (.slice (some ⟨g, 0, none⟩) m cap) ∧ w'.ownsRow w.heap.size 28 1 (.slice (some ⟨g, 0, none⟩) m cap) m vs ∧ Below w.heap.size w w' := by
  obtain ⟨i0, hi, hz0, hz1, hz2⟩ := info_parts infoU
  have hmx : m ≤ maxLen := by simp only [maxLen]; omega
  have HL : Hid (vs.length = m) := hl
  have HC : Hid (∀ j u, vs[j]? = some u → (w.alloc (.cells #[] 28)).cell? ((⟨b, off, none⟩ : Addr).add j) = some u) := fun j u hj => by
    rw [Go.WideShapes.add_plain]
    exact (World.cell?_of_block (w := w) (a := ⟨b, off + j, none⟩) (Below.heap_alloc w _ b (lt_of_cell (hc j u hj)))).trans (hc j u hj)
  have H1 : Hid (∀ u ∈ vs, u.oneCell' = true) := h1
  have HO : Hid ((w.alloc (.cells #[] 28)).ownsRow w.heap.size 28 1 (.slice (some ⟨w.heap.size, 0, none⟩) 0 0) 0 []) := ⟨rfl, Or.inr ⟨w.heap.size, 0, #[], rfl, Nat.le_refl _, heap_alloc_new w _, Nat.le_refl _, by decide, rfl, rfl⟩⟩
  have eqn := fun a l c w => eqNil Tryd.underlying23 a l c w
  have HA0 : Hid (Below w.heap.size w (w.alloc (.cells #[] 28))) := (Below.refl w.heap.size w).alloc (Nat.le_refl _) _
  clear hl hc h1
  go_enter Tryd.func27, Tryd.ntmps27
  go_wp2_with (at_builtin; refine wpList_append_lies (P := Tryd.prog) _ rfl _ _ 23 rfl w.heap.size 28 i0 (.int .u32 0) 1 4 Tryd.underlying23 hi hz0 hz1 hz2 rfl (by decide) _ 0 [] rfl HO.out ⟨b, off, none⟩ m c vs rfl (by rw [HL.out, Nat.mul_one]) HC.out H1.out hm (by omega) (by omega) (by simp) _ rfl ?_; intro g cap w1 ho hg _ _; have HR : Hid (w1.ownsRow w.heap.size 28 1 (.slice (some ⟨g, 0, none⟩) (0 + m) cap) (0 + m) ([] ++ vs)) := ho; have HB : Hid (Below w.heap.size w w1) := HA0.out.grown hg (by rw [World.size_alloc]; exact Nat.le_succ _) (fun k hk => by cases hk; exact Nat.le_refl _); clear ho hg HC H1 HO)
  go_ret
  have h := HR.out
  rw [List.nil_append, Nat.zero_add] at h
  exact ⟨g, cap, rfl, h, HB.out⟩
set_option maxHeartbeats 2000000 in
theorem cloneRow_any (b off m c : Nat) (vs : List Value) (w : World) (hl : vs.length = m) (hm : 0 < m) (hc : ∀ j u, vs[j]? = some u → w.cell? ⟨b, off + j, none⟩ = some u) (h1 : ∀ u ∈ vs, u.oneCell' = true) (hby : m * 8 ≤ 140737488355328) :
    Calls Tryd.prog 32 #[.slice (some ⟨b, off, none⟩) m c] w fun e w' => ∃ g cap, e = .returned (.slice (some ⟨g, 0, none⟩) m cap) ∧ w'.ownsRow w.heap.size 30 1 (.slice (some ⟨g, 0, none⟩) m cap) m vs ∧ Below w.heap.size w w' := by
  obtain ⟨i0, hi, hz0, hz1, hz2⟩ := info_parts infoG
  have hmx : m ≤ maxLen := by simp only [maxLen]; omega
  have HL : Hid (vs.length = m) := hl
  have HC : Hid (∀ j u, vs[j]? = some u → (w.alloc (.cells #[] 30)).cell? ((⟨b, off, none⟩ : Addr).add j) = some u) := fun j u hj => by
    rw [Go.WideShapes.add_plain]
    exact (World.cell?_of_block (w := w) (a := ⟨b, off + j, none⟩) (Below.heap_alloc w _ b (lt_of_cell (hc j u hj)))).trans (hc j u hj)
  have H1 : Hid (∀ u ∈ vs, u.oneCell' = true) := h1
  have HO : Hid ((w.alloc (.cells #[] 30)).ownsRow w.heap.size 30 1 (.slice (some ⟨w.heap.size, 0, none⟩) 0 0) 0 []) := ⟨rfl, Or.inr ⟨w.heap.size, 0, #[], rfl, Nat.le_refl _, heap_alloc_new w _, Nat.le_refl _, by decide, rfl, rfl⟩⟩
  have eqn := fun a l c w => eqNil Tryd.underlying66 a l c w
  have HA0 : Hid (Below w.heap.size w (w.alloc (.cells #[] 30))) := (Below.refl w.heap.size w).alloc (Nat.le_refl _) _
  clear hl hc h1
  go_enter Tryd.func32, Tryd.ntmps32
  go_wp2_with (at_builtin; refine wpList_append_lies (P := Tryd.prog) _ rfl _ _ 66 rfl w.heap.size 30 i0 (.int .u64 0) 1 8 Tryd.underlying66 hi hz0 hz1 hz2 rfl (by decide) _ 0 [] rfl HO.out ⟨b, off, none⟩ m c vs rfl (by rw [HL.out, Nat.mul_one]) HC.out H1.out hm (by omega) (by omega) (by simp) _ rfl ?_; intro g cap w1 ho hg _ _; have HR : Hid (w1.ownsRow w.heap.size 30 1 (.slice (some ⟨g, 0, none⟩) (0 + m) cap) (0 + m) ([] ++ vs)) := ho; have HB : Hid (Below w.heap.size w w1) := HA0.out.grown hg (by rw [World.size_alloc]; exact Nat.le_succ _) (fun k hk => by cases hk; exact Nat.le_refl _); clear ho hg HC H1 HO)
  go_ret
  have h := HR.out
  rw [List.nil_append, Nat.zero_add] at h
  exact ⟨g, cap, rfl, h, HB.out⟩
end Go.Proofs.YtmjnobdlgbojoaaDoor
