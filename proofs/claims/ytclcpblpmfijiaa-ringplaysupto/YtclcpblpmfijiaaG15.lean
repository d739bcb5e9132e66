/- A pair's calls: asks; a push, a pop, a look. -/
import Derived.Test.YtclcpblpmfijiaaG11
import Derived.Deep.QuietTactic
import Derived.BigQuiet
namespace Go.Proofs.Ytclcpblpmfijiaa
open Go.RowKit Go.Maps Rg
attribute [local go_sem ↓] Go.wp_at_zero Go.wp_at_succ

theorem RBox.drewN {u : World} {B R N f m : Nat} (h : RBox u B R N f m) (n : Nat) : RBox (u.drewN n) B R N f m := h
set_option maxRecDepth 8000 in
set_option maxHeartbeats 1600000 in
theorem asks_any {p : Nat} {T : Tg} {u : World} {D B R Q N f : Nat} {VQ VL VW : Value} {l : List Int} {LL : List (List Int)} (h : PAt p T u D B R Q N f VQ VL VW l l LL) :
    Calls Try.prog 21 #[.pointer (some ⟨D, 0, none⟩)] u fun e w' => e = .returned (.bool true) ∧ Below u.heap.size u w' := by
  obtain ⟨d0, d1, d2, d3⟩ := h.d.cells
  obtain ⟨e0, e1⟩ := h.q.cells
  obtain ⟨a, c, rfl⟩ := lat_len h.lq.1
  rw [ints_len] at e1
  have hgl := h.g.l
  have hgn := h.g.n
  obtain ⟨m, hm⟩ : ∃ m, l.length = m := ⟨_, rfl⟩
  have hb := h.g.b
  rw [hm] at e1 hgl hb
  have HLN : Hid (∀ n, Calls Try.prog 16 #[.pointer (some ⟨B, 0, none⟩)] (u.drewN n) fun e w' => e = .returned (.int .i64 (m : Nat)) ∧ w' = u.drewN n) := fun n => len_any (hb.drewN n)
  obtain ⟨b, hbb⟩ : ∃ b, decide (m = N) = b := ⟨_, rfl⟩
  have HFU : Hid (∀ n, Calls Try.prog 14 #[.pointer (some ⟨B, 0, none⟩)] (u.drewN n) fun e w' => e = .returned (.bool b) ∧ ∃ k, w' = (u.drewN n).drewN k) := fun n => (full_any (hb.drewN n)).mono fun e w' y => ⟨by rw [y.1, hbb], 1, y.2⟩
  by_cases hf : m = N
  · have hbt : b = true := by rw [← hbb]; exact decide_eq_true hf
    subst hbt
    have l1 : ((m : Int) == (N : Int)) = true := by simp; omega
    have l2 : (m : Int) = (N : Int) := by omega
    have l3 : ((m : Int) == (m : Int)) = true := by simp
    clear h hm hb hf hgl hbb
    go_enter Try.func21, Try.ntmps21
    go_upto_region 1 with fail
    go_quiet ((first
      | (go_at_call 16; exact Calls.quiet_of_same (HLN.out _))
      | (go_at_call 14; exact Calls.quiet_of (HFU.out _))))
    go_wp2_with fail
    go_ret
    exact ⟨by first | rfl | simp [l2], drew_below u _⟩
  · have hbt : b = false := by rw [← hbb]; exact decide_eq_false hf
    subst hbt
    have l1 : ((m : Int) == (N : Int)) = false := by simp; omega
    have l2 : ¬ (m : Int) = (N : Int) := by omega
    have l3 : ((m : Int) == (m : Int)) = true := by simp
    clear h hm hb hf hgl hbb
    go_enter Try.func21, Try.ntmps21
    go_upto_region 1 with fail
    go_quiet ((first
      | (go_at_call 16; exact Calls.quiet_of_same (HLN.out _))
      | (go_at_call 14; exact Calls.quiet_of (HFU.out _))))
    go_wp2_with fail
    go_ret
    exact ⟨by first | rfl | simp [l2], drew_below u _⟩
end Go.Proofs.Ytclcpblpmfijiaa
