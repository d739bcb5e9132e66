/- is, walked: what is read is a tree by the chapter's word. -/
import Derived.Test.YtjmbimgofceanaaG16
namespace Go.Proofs.Ytjmbimgofceanaa
open Go.RowKit
attribute [local go_sem ↓] Go.wp_at_zero Go.wp_at_succ

theorem ten_bit {s : Oct.S} (h : s 10 = false) : (bits .and .u64 ((Oct.word s 0 : Nat) / 1024) 1 == 0) = true := by
  have hw := Oct.word_has s 10
  rw [h] at hw
  have e : ((Oct.word s 0 : Nat) : Int) / 1024 = ((Oct.word s (10 / 64) / 2 ^ (10 % 64) : Nat) : Int) := by simp
  have hl : Oct.word s (10 / 64) / 2 ^ (10 % 64) < 18446744073709551616 := Nat.lt_of_le_of_lt (Nat.div_le_self _ _) (Oct.word_lt s _)
  rw [e, show (1 : Int) = ((1 : Nat) : Int) from rfl, u64_and_nat _ _ hl (by decide), nat_mask1, hw]
  rfl
theorem noSet_none : noSet Oct.none = true := by unfold noSet; rw [show Oct.none = fun _ => false from rfl]; simp [Oct.word_none]
end Go.Proofs.Ytjmbimgofceanaa
